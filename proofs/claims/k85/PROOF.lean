import PyProof.Rows.All
import Wide.All
import OpenK.AllK
import Wide.FinOn
import HandS.ForMost
import HandS.Wide
import HandS.WideBits
import HandS.Dict
import HandS.OwnEq
import PyProof.SeqRoads2
import HandS.Gcd
import HandS.Defaults
import HandS.CallLocal
import HandS.Style
import HandS.IsInst
import HandS.More
import HandS.TupAny
import HandS.StrMore
import HandS.Codes
import HandS.FStr
import HandS.ForSpec
import HandS.ExcIs
import KE.KExcInit
import HandS.Conv
import HandS.Sort
import PyProof.IsiH_set
import PyProof.FactsAll.object
import PyProof.TableTree
import PyProof.FactsTree
import KE.KIsAll
import PyProof.LongRange
import PyProof.ListRange
import PyProof.EqKinds
import PyProof.Rows.IntBool
import PyProof.Rows.EqBoolInt
import PyProof.Rows.ReprOcc
import HandS.SortRule
import HandS.Zip
import HandS.SortKw
import HandS.SetFor
import KE.GoesMore
import PyProof.Rows.SumAny
import PyProof.Rows.SortKeyStr
import HandS.NestedK
import HandS.EndTab
import HandS.EndOwn
import HandS.CallRecv
import PySem.Challenge.RW_figuretexts_k85_whole_rounding_by_all_wa

set_option Elab.async false
set_option linter.all false
set_option maxRecDepth 100000
set_option maxHeartbeats 4000000

namespace My
/-! numbers as Rat -/
def cdiv (t b : Int) : Int := if b < 0 then -((Nat.gcd t.natAbs b.natAbs : Nat) : Int) else ((Nat.gcd t.natAbs b.natAbs : Nat) : Int)
theorem gcd_pos {t b : Int} (h : b ≠ 0) : 0 < Nat.gcd t.natAbs b.natAbs := Nat.gcd_pos_of_pos_right _ (by omega)
theorem num_of {t b : Int} (h : b ≠ 0) : t.fdiv (cdiv t b) = (Rat.divInt t b).num := by
  have g := gcd_pos (t := t) h
  have d1 : ((Nat.gcd t.natAbs b.natAbs : Nat) : Int) ∣ t := Int.dvd_trans (Int.natCast_dvd_natCast.mpr (Nat.gcd_dvd_left _ _)) (Int.natAbs_dvd.mpr (Int.dvd_refl _))
  rw [Rat.num_divInt]
  have e : ((Int.gcd b t : Nat) : Int) = ((Nat.gcd t.natAbs b.natAbs : Nat) : Int) := by
    rw [Int.gcd_comm]; rfl
  rw [e]
  unfold cdiv
  obtain ⟨k, hk⟩ := d1
  have gn : ((Nat.gcd t.natAbs b.natAbs : Nat) : Int) ≠ 0 := by omega
  generalize ((Nat.gcd t.natAbs b.natAbs : Nat) : Int) = G at *
  subst hk
  by_cases hb : b < 0
  · rw [if_pos hb, Int.sign_eq_neg_one_of_neg hb]
    rw [show G * k = (-G) * (-k) by rw [Int.neg_mul_neg], Int.mul_fdiv_cancel_left _ (by omega)]
    rw [show -1 * (-G * -k) = G * (-k) by rw [Int.neg_mul_neg]; rw [Int.neg_one_mul, Int.mul_neg], Int.mul_ediv_cancel_left _ gn]
  · have hb' : 0 < b := by omega
    rw [if_neg hb, Int.sign_eq_one_of_pos hb', Int.one_mul, Int.mul_fdiv_cancel_left _ gn, Int.mul_ediv_cancel_left _ gn]
theorem den_of {t b : Int} (h : b ≠ 0) : b.fdiv (cdiv t b) = ((Rat.divInt t b).den : Int) := by
  have g := gcd_pos (t := t) h
  have d1 : ((Nat.gcd t.natAbs b.natAbs : Nat) : Int) ∣ b := Int.dvd_trans (Int.natCast_dvd_natCast.mpr (Nat.gcd_dvd_right _ _)) (Int.natAbs_dvd.mpr (Int.dvd_refl _))
  rw [Rat.den_divInt, if_neg h]
  have e : (Int.gcd b t : Nat) = (Nat.gcd t.natAbs b.natAbs : Nat) := by
    rw [Int.gcd_comm]; rfl
  rw [e, Int.natCast_ediv]
  unfold cdiv
  obtain ⟨k, hk⟩ := d1
  have gn : ((Nat.gcd t.natAbs b.natAbs : Nat) : Int) ≠ 0 := by omega
  have gp : 0 < ((Nat.gcd t.natAbs b.natAbs : Nat) : Int) := by omega
  generalize hG : ((Nat.gcd t.natAbs b.natAbs : Nat) : Int) = G at *
  by_cases hb : b < 0
  · rw [if_pos hb, show ((b.natAbs : Nat) : Int) = -b by omega]
    rw [hk, show G * k = (-G) * (-k) by rw [Int.neg_mul_neg], Int.mul_fdiv_cancel_left _ (by omega)]
    rw [show -(-G * -k) = G * (-k) by rw [Int.neg_mul_neg, Int.mul_neg], Int.mul_ediv_cancel_left _ gn]
  · rw [if_neg hb, show ((b.natAbs : Nat) : Int) = b by omega, hk, Int.mul_fdiv_cancel_left _ gn, Int.mul_ediv_cancel_left _ gn]

/-- top and bottom below 2 ^ n -/
def Bd (n : Nat) (q : Rat) : Prop := q.num.natAbs < 2 ^ n ∧ q.den < 2 ^ n
theorem Bd.mono {m n : Nat} {q : Rat} (h : Bd m q) (l : m ≤ n) : Bd n q :=
  ⟨Nat.lt_of_lt_of_le h.1 (Nat.pow_le_pow_right (by decide) l), Nat.lt_of_lt_of_le h.2 (Nat.pow_le_pow_right (by decide) l)⟩
theorem num_le (t b : Int) : (Rat.divInt t b).num.natAbs ≤ t.natAbs := by
  rw [Rat.num_divInt]
  refine Nat.le_trans (Int.natAbs_ediv_le_natAbs _ _) ?_
  rw [Int.natAbs_mul]
  rcases Int.lt_trichotomy b 0 with h | h | h
  · rw [Int.sign_eq_neg_one_of_neg h]; simp
  · subst h; simp
  · rw [Int.sign_eq_one_of_pos h]; simp
theorem den_le {t b : Int} (h : b ≠ 0) : (Rat.divInt t b).den ≤ b.natAbs := by
  rw [Rat.den_divInt, if_neg h]
  exact Nat.div_le_self _ _
theorem Bd.of {n : Nat} {t b : Int} (h : b ≠ 0) (ht : t.natAbs < 2 ^ n) (hb : b.natAbs < 2 ^ n) : Bd n (Rat.divInt t b) :=
  ⟨Nat.lt_of_le_of_lt (num_le t b) ht, Nat.lt_of_le_of_lt (den_le h) hb⟩
theorem den_ne (q : Rat) : ((q.den : Nat) : Int) ≠ 0 := by have := q.den_pos; omega
theorem sub_eq (x y : Rat) : Rat.divInt (x.num * (y.den : Int) - y.num * (x.den : Int)) ((x.den : Int) * (y.den : Int)) = x - y := by
  rw [Rat.sub_def', ← Int.natCast_mul, Rat.divInt_ofNat]
theorem add_eq (x y : Rat) : Rat.divInt (x.num * (y.den : Int) + y.num * (x.den : Int)) ((x.den : Int) * (y.den : Int)) = x + y := by
  rw [Rat.add_def', ← Int.natCast_mul, Rat.divInt_ofNat]
theorem mul_eq (x y : Rat) : Rat.divInt (x.num * y.num) ((x.den : Int) * (y.den : Int)) = x * y := by
  rw [Rat.mul_def', ← Int.natCast_mul, Rat.divInt_ofNat]
theorem div_eq (x y : Rat) : Rat.divInt (x.num * (y.den : Int)) ((x.den : Int) * y.num) = x / y := by
  rw [Rat.div_def, Rat.inv_def, ← Rat.divInt_mul_divInt, Rat.num_divInt_den]
theorem num_ne {y : Rat} (h : y ≠ 0) : y.num ≠ 0 := fun e => h (Rat.num_eq_zero.mp e)
theorem floor_eq (x : Rat) : x.num.fdiv (x.den : Int) = x.floor := by
  rw [Rat.floor_def, Int.fdiv_eq_ediv_of_nonneg _ (by omega)]
theorem natAbs_mul_lt {a b : Int} {m n k : Nat} (ha : a.natAbs < 2 ^ m) (hb : b.natAbs < 2 ^ n) (h : m + n ≤ k) : (a * b).natAbs < 2 ^ k := by
  rw [Int.natAbs_mul]
  exact Nat.lt_of_lt_of_le (Nat.mul_lt_mul'' ha hb) (by rw [← Nat.pow_add]; exact Nat.pow_le_pow_right (by decide) h)
theorem natAbs_sub_lt {a b : Int} {k : Nat} (ha : a.natAbs < 2 ^ k) (hb : b.natAbs < 2 ^ k) : (a - b).natAbs < 2 ^ (k + 1) := by
  rw [Nat.pow_succ]; omega
theorem natAbs_add_lt {a b : Int} {k : Nat} (ha : a.natAbs < 2 ^ k) (hb : b.natAbs < 2 ^ k) : (a + b).natAbs < 2 ^ (k + 1) := by
  rw [Nat.pow_succ]; omega
theorem Bd.sub {m n : Nat} {x y : Rat} (hx : Bd m x) (hy : Bd n y) : Bd (m + n + 1) (x - y) := by
  rw [← sub_eq]
  refine Bd.of (Int.mul_ne_zero (den_ne x) (den_ne y)) ?_ ?_
  · exact natAbs_sub_lt (natAbs_mul_lt (m := m) (n := n) hx.1 (by have := hy.2; omega) (Nat.le_refl _)) (natAbs_mul_lt (m := n) (n := m) hy.1 (by have := hx.2; omega) (by omega))
  · exact natAbs_mul_lt (m := m) (n := n) (by have := hx.2; omega) (by have := hy.2; omega) (by omega)
theorem Bd.mul {m n : Nat} {x y : Rat} (hx : Bd m x) (hy : Bd n y) : Bd (m + n) (x * y) := by
  rw [← mul_eq]
  exact Bd.of (Int.mul_ne_zero (den_ne x) (den_ne y)) (natAbs_mul_lt hx.1 hy.1 (Nat.le_refl _)) (natAbs_mul_lt (m := m) (n := n) (by have := hx.2; omega) (by have := hy.2; omega) (by omega))
theorem Bd.div {m n : Nat} {x y : Rat} (hx : Bd m x) (hy : Bd n y) (h : y ≠ 0) : Bd (m + n) (x / y) := by
  rw [← div_eq]
  exact Bd.of (Int.mul_ne_zero (den_ne x) (num_ne h)) (natAbs_mul_lt (m := m) (n := n) hx.1 (by have := hy.2; omega) (Nat.le_refl _)) (natAbs_mul_lt (m := m) (n := n) (by have := hx.2; omega) hy.1 (by omega))
theorem Bd.int {n : Nat} {i : Int} (h : i.natAbs < 2 ^ n) (h1 : 1 ≤ n) : Bd n (i : Rat) := ⟨h, by
  show 1 < 2 ^ n
  exact Nat.lt_of_lt_of_le (by decide) (Nat.pow_le_pow_right (by decide) h1)⟩
theorem floor_bd {n : Nat} {x : Rat} (h : Bd n x) : x.floor.natAbs < 2 ^ n := by
  rw [Rat.floor_def]
  exact Nat.lt_of_le_of_lt (Int.natAbs_ediv_le_natAbs _ _) h.1
theorem divInt_one (i : Int) : Rat.divInt i 1 = (i : Rat) := by
  have := Rat.divInt_ofNat i 1
  rw [show ((1 : Nat) : Int) = 1 from rfl] at this
  rw [this, Rat.mkRat_eq_div]; simp
  grind

/-! the ways -/
inductive Way where
  | up | down | high | low | hup | hdown | heven | hodd
def nearerB (part : Rat) (a : Bool) : Bool := if 2 * part.num = (part.den : Int) then a else decide ((part.den : Int) < 2 * part.num)
def ruleB : Way → Int → Rat → Bool
  | .up, l, _ => decide (0 ≤ l)
  | .down, l, _ => decide (l < 0)
  | .high, _, _ => true
  | .low, _, _ => false
  | .hup, l, p => nearerB p (decide (0 ≤ l))
  | .hdown, l, p => nearerB p (decide (l < 0))
  | .heven, l, p => nearerB p (decide (l % 2 = 1))
  | .hodd, l, p => nearerB p (decide (l % 2 = 0))
def partQ (n : Rat) : Rat := n - (n.floor : Rat)
def highQ (n : Rat) : Int := if (partQ n).num = 0 then n.floor else n.floor + 1
def takenQ (w : Way) (n : Rat) : Int := if (partQ n).num = 0 then n.floor else if ruleB w n.floor (partQ n) = true then n.floor + 1 else n.floor
theorem floor_add {c : Int} {f : Rat} (h0 : 0 ≤ f) (h1 : f < 1) : ((c : Rat) + f).floor = c := by
  have a : c ≤ ((c : Rat) + f).floor := Rat.le_floor_iff.mpr (by grind)
  have b : ((c : Rat) + f).floor < c + 1 := Rat.floor_lt_iff.mpr (by rw [Rat.intCast_add]; grind)
  omega
theorem part_add {c : Int} {f : Rat} (h0 : 0 ≤ f) (h1 : f < 1) : partQ ((c : Rat) + f) = f := by
  unfold partQ
  rw [floor_add h0 h1]
  grind
theorem taken_add {w : Way} {c : Int} {f : Rat} (h0 : 0 < f) (h1 : f < 1) : takenQ w ((c : Rat) + f) = if ruleB w c f = true then c + 1 else c := by
  unfold takenQ
  rw [part_add (Rat.le_of_lt h0) h1, floor_add (Rat.le_of_lt h0) h1, if_neg (num_ne (by grind))]
/-- a number of whole and part steps -/
theorem steps_eq {a b c p0 p1 : Int} (ha : a ≠ 0) (hb : b ≠ 0) (h1 : p1 ≠ 0) : Rat.divInt (a * (c * p1 + p0)) (b * p1) / Rat.divInt a b = (c : Rat) + Rat.divInt p0 p1 := by
  simp only [Rat.divInt_eq_div, Rat.intCast_mul, Rat.intCast_add]
  have ha' : (a : Rat) ≠ 0 := by simpa using ha
  have hb' : (b : Rat) ≠ 0 := by simpa using hb
  have h1' : (p1 : Rat) ≠ 0 := by simpa using h1
  grind
end My

namespace My
open PySem L2
/-! readings, one head at a time -/
section
variable {σ : L2.St} {H : Hp} {Q : VK} {QB : Bool → Hp → Prop} {QA : List V → Hp → Prop} {QS : L2.St → Hp → Prop} {v x y : V} {ta tb te tc : TE} {tr : TA} {t u : TS} {c d : TT} {g : TG} {i : Nat} {K : PySem.W.Frag} {b : Bool}
  {nx : L2.St → Hp → Prop} {rt : VK} {bk ct : L2.St → Hp → Prop}
theorem r_var (q : ∃ v, σ[i]? = some (some v) ∧ Q v H) : tVar i σ H Q := q
theorem r_c (q : Q v H) : tC v σ H Q := q
theorem r_op {r : R2} (q : ta σ H fun x H1 => tb σ H1 fun y H2 => r x y H2 Q) : tOp r ta tb σ H Q := q
theorem r_un {r : V → Hp → VK → Prop} (q : ta σ H fun x H1 => r x H1 Q) : tUn r ta σ H Q := q
theorem r_U {f : Int → V} {i : Int} (q : Q (f i) H) : rU f (.int i) H Q := ⟨i, rfl, q⟩
theorem r_I0 {f : Int → Int → V} {i j : Int} (q : Q (f i j) H) : rI0 f (.int i) (.int j) H Q := ⟨i, j, rfl, rfl, q⟩
theorem r_I {C : Int → Int → Prop} {f : Int → Int → V} {i j : Int} (h : C i j) (q : Q (f i j) H) : rI C f (.int i) (.int j) H Q := ⟨i, j, rfl, rfl, h, q⟩
theorem r_eq (h : scal x y = true) (q : Q (.bl (decide (x = y))) H) : rEq x y H Q := ⟨h, q⟩
theorem r_ne (h : scal x y = true) (q : Q (.bl (!decide (x = y))) H) : rNe x y H Q := ⟨h, q⟩
theorem r_eqI {i j : Int} (q : Q (.bl (decide (i = j))) H) : rEq (.int i) (.int j) H Q := ⟨rfl, by
  have e : decide (V.int i = V.int j) = decide (i = j) := by simp
  rw [e]; exact q⟩
theorem r_neI {i j : Int} (q : Q (.bl (!decide (i = j))) H) : rNe (.int i) (.int j) H Q := ⟨rfl, by
  have e : decide (V.int i = V.int j) = decide (i = j) := by simp
  rw [e]; exact q⟩
theorem r_eqS {i j : Str} (q : Q (.bl (decide (i = j))) H) : rEq (.str i) (.str j) H Q := ⟨rfl, by
  have e : decide (V.str i = V.str j) = decide (i = j) := by simp
  rw [e]; exact q⟩
theorem r_eqB {i j : Bool} (q : Q (.bl (decide (i = j))) H) : rEq (.bl i) (.bl j) H Q := ⟨rfl, by
  have e : decide (V.bl i = V.bl j) = decide (i = j) := by simp
  rw [e]; exact q⟩
theorem r_test (q : te σ H fun x H' => ∃ k, x = .bl k ∧ QB k H') : tTest te σ H QB := q
theorem r_B (q : te σ H fun x H' => ∃ k, x = .bl k ∧ QB k H') : tB te σ H QB := q
theorem r_k {P : Bool → Prop} (q : P b) : ∃ k, V.bl b = .bl k ∧ P k := ⟨b, rfl, q⟩
theorem r_and (q : c σ H fun b H1 => if b = true then d σ H1 QB else QB false H1) : tAnd c d σ H QB := q
theorem r_or (q : c σ H fun b H1 => if b = true then QB true H1 else d σ H1 QB) : tOr c d σ H QB := q
theorem r_not (q : c σ H fun b H1 => QB (!b) H1) : tNot c σ H QB := q
theorem r_andV (q : ta σ H fun x H1 => ∃ c, x = .bl c ∧ if c = true then tb σ H1 Q else Q (.bl false) H1) : tAndV ta tb σ H Q := q
theorem r_orV (q : ta σ H fun x H1 => ∃ c, x = .bl c ∧ if c = true then Q (.bl true) H1 else tb σ H1 Q) : tOrV ta tb σ H Q := q
theorem r_notV (q : ta σ H fun x H1 => ∃ c, x = .bl c ∧ Q (.bl (!c)) H1) : tNotV ta σ H Q := q
theorem r_if (q : c σ H fun b H1 => if b = true then ta σ H1 Q else tb σ H1 Q) : tIf c ta tb σ H Q := q
theorem r_seq (q : t ⟨u ⟨nx, rt, bk, ct⟩, rt, bk, ct⟩ σ H) : tSeq t u ⟨nx, rt, bk, ct⟩ σ H := q
theorem r_asg (q : te σ H fun x H1 => g x σ H1 nx) : tAsg te g ⟨nx, rt, bk, ct⟩ σ H := q
theorem r_name (q : QS (σ.set i (some v)) H) : gName i v σ H QS := q
theorem r_ifs (q : c σ H fun b H1 => if b = true then t ⟨nx, rt, bk, ct⟩ σ H1 else u ⟨nx, rt, bk, ct⟩ σ H1) : tIfS c t u ⟨nx, rt, bk, ct⟩ σ H := q
theorem r_ret (q : te σ H rt) : tRet te ⟨nx, rt, bk, ct⟩ σ H := q
theorem r_next (q : nx σ H) : tNext ⟨nx, rt, bk, ct⟩ σ H := q
theorem r_drop (q : te σ H fun _ H1 => nx σ H1) : tDrop te ⟨nx, rt, bk, ct⟩ σ H := q
theorem r_cons (q : te σ H fun x H1 => tr σ H1 fun xs H2 => QA (x :: xs) H2) : tCons te tr σ H QA := q
theorem r_nil (q : QA [] H) : tNil σ H QA := q
theorem r_tup (q : tr σ H fun xs H1 => xs.length ≤ sizeLine ∧ ∀ p, H1 p = none → Q (.ref p) (upd H1 p (.tup xs))) : tTup tr σ H Q := q
theorem r_lst (q : tr σ H fun xs H1 => xs.length ≤ sizeLine ∧ ∀ p, H1 p = none → Q (.ref p) (upd H1 p (.lst xs))) : tLst tr σ H Q := q
theorem r_new {n : Nat} {P : Prop} (h : n ≤ 1000) (q : P) : n ≤ sizeLine ∧ P := ⟨Nat.le_trans h (by decide), q⟩
theorem r_fldT {f : Str} (q : ta σ H fun x H1 => ∃ a C dx fs v, x = .ref a ∧ H1 a = some (.ins C dx fs) ∧ Cls K C ∧ NoAttr K C f ∧ fs.lookup f = some v ∧ Q v H1) : tFld K ta f σ H Q := q
theorem r_fld {f : Str} {p C dx : Addr} {fs : List (Str × V)} (h : H p = some (.ins C dx fs)) (k : Cls K C) (n : NoAttr K C f) (l : fs.lookup f = some v) {P : V → Prop} (q : P v) :
    ∃ a C dx fs v, V.ref p = .ref a ∧ H a = some (.ins C dx fs) ∧ Cls K C ∧ NoAttr K C f ∧ fs.lookup f = some v ∧ P v := ⟨p, C, dx, fs, v, rfl, h, k, n, l, q⟩
theorem r_sFld {f : Str} (q : te σ H fun y H1 => ta σ H1 fun x H2 => ∃ a C dx fs, x = .ref a ∧ H2 a = some (.ins C dx fs) ∧ Cls K C ∧ NoAttr K C f ∧ fs.length < 1000 ∧ nx σ (upd H2 a (.ins C dx (putF f y fs)))) : sFld K ta te f ⟨nx, rt, bk, ct⟩ σ H := q
theorem r_call {sp : Sp} {dvs : List V} {E : XK} (q : tr σ H fun vs H1 => sp (vs ++ dvs) H1 Q E) : tCall sp dvs E tr σ H Q := q
theorem r_CB {r : List V → Hp → VK → Prop} (q : tr σ H fun vs H1 => r vs H1 Q) : tCB r tr σ H Q := q
theorem r_meth {C : Addr} {m : Str} {sp : Sp} {dvs : List V} {E : XK} (q : ta σ H fun x H1 => ∃ a dx fs, x = .ref a ∧ H1 a = some (.ins C dx fs) ∧ fs.lookup m = none ∧ tr σ H1 fun vs H2 => sp (x :: (vs ++ dvs)) H2 Q E) : tMeth C m sp dvs E ta tr σ H Q := q
theorem r_meth1 {C : Addr} {m : Str} {P : Prop} {p dx : Addr} {fs : List (Str × V)} (h : H p = some (.ins C dx fs)) (l : fs.lookup m = none) (q : P) : ∃ a dx fs, V.ref p = .ref a ∧ H a = some (.ins C dx fs) ∧ fs.lookup m = none ∧ P := ⟨p, dx, fs, rfl, h, l, q⟩
theorem r_make {C : Addr} {sp : Sp} {dvs : List V} {E : XK} (q : tr σ H fun vs H1 => ∀ x dx, H1 x = none → H1 dx = none → dx ≠ x → sp (.ref x :: (vs ++ dvs)) (upd (upd H1 dx (.own x)) x (.ins C dx [])) (fun v H2 => v = .non ∧ Q (.ref x) H2) E) : tMake C sp dvs E tr σ H Q := q
theorem r_callN {n m : Nat} {sp : Sp} {gV : List V → List V → List V} {E : XK} {tk : TA} (q : tr σ H fun vs H1 => tk σ H1 fun zs H2 => vs.length = n ∧ zs.length = m ∧ sp (gV vs zs) H2 Q E) : tCallN n m sp gV E tr tk σ H Q := q
theorem r_ixT {p : Addr} {xs : List V} {i : Int} (h : H p = some (.tup xs)) (a : atI xs i = some v) (q : Q v H) : rIxT K (.ref p) (.int i) H Q := ⟨p, xs, i, v, rfl, rfl, SqT.of h, a, q⟩
theorem r_ixL {p : Addr} {xs : List V} {i : Int} (h : H p = some (.lst xs)) (a : atI xs i = some v) (q : Q v H) : rIxL K (.ref p) (.int i) H Q := ⟨p, xs, i, v, rfl, rfl, SqL.of h, a, q⟩
theorem r_isi {vs : List V} (q : rIsi K vs H Q) : rIsi K vs H Q := q
theorem r_ite {A B : Prop} {k : Bool} (h1 : k = true → A) (h2 : k = false → B) : if k = true then A else B := by
  cases k with
  | true => exact h1 rfl
  | false => exact h2 rfl
theorem r_iteT {A B : Prop} {k : Bool} (h : k = true) (q : A) : if k = true then A else B := by
  rw [if_pos h]; exact q
theorem r_iteF {A B : Prop} {k : Bool} (h : k = false) (q : B) : if k = true then A else B := by
  subst h; exact iteF q
end
/-! ### // by any number but nought -/
def CDivA (_ j : Int) : Prop := j ≠ 0 ∧ j.natAbs.log2 < 9000
theorem op_fdivA {X : Cx} : OpR X (binaryOp .FloorDiv) (rI CDivA fun i j => .int (i.fdiv j)) := opI fun i j _ _ _ _ _ hc q => PyProof.Rows.floordiv_int hc.1 q (.inl (PyProof.noPylong_of_log2 hc.2))
theorem cdivA {i j : Int} {b : Nat} (h : j ≠ 0) (hb : j.natAbs < 2 ^ b) (h0 : 0 < b) (h9 : b ≤ 9000) : CDivA i j := ⟨h, Nat.lt_of_lt_of_le (PySem.Flt.log2_lt_of h0 hb) h9⟩
/-! ### heaps but for two places -/
def Off (d c : Addr) (H H' : Hp) : Prop := ∀ b o, b ≠ d → b ≠ c → H b = some o → H' b = some o
theorem Off.refl (d c : Addr) (H : Hp) : Off d c H H := fun _ _ _ _ h => h
theorem Off.trans {d c : Addr} {H H1 H2 : Hp} (a : Off d c H H1) (b : Off d c H1 H2) : Off d c H H2 := fun x o h1 h2 h => b x o h1 h2 (a x o h1 h2 h)
theorem Off.of {d c : Addr} {H H' : Hp} (a : Same H H') : Off d c H H' := fun x o _ _ h => a x o h
theorem Same.new {H : Hp} {p : Addr} {o : HO} (h : H p = none) : Same H (upd H p o) := fun b u e => by
  rw [upd_ne (ne_of_none e h)]
  exact e
/-! ### more heads -/
section
variable {σ : L2.St} {H : Hp} {Q : VK} {QA : List V → Hp → Prop} {QS : L2.St → Hp → Prop} {QO : Option Int → Hp → Prop} {v x y : V} {te ta to ti : TE} {tr : TA} {tl th : TO} {K : PySem.W.Frag} {nx : L2.St → Hp → Prop} {rt : VK} {bk ct : L2.St → Hp → Prop}
theorem r_gsub {t : TSet} (q : to σ H fun o H1 => ti σ H1 fun i H2 => t o i v H2 fun H3 => QS σ H3) : gSub to ti t v σ H QS := q
theorem r_setL {p : Addr} {xs : List V} {k : Int} {j : Nat} {R : Hp → Prop} (h : H p = some (.lst xs)) (e : ixN xs.length k = some j) (q : R (upd H p (.lst (xs.set j v)))) : rSetL (.ref p) (.int k) v H R := ⟨p, xs, k, j, rfl, rfl, h, e, q⟩
theorem r_sl {r : V → Option Int → Option Int → Hp → VK → Prop} (q : te σ H fun x H1 => tl σ H1 fun l H2 => th σ H2 fun u H3 => r x l u H3 Q) : tSl r te tl th σ H Q := q
theorem r_noPart (q : QO none H) : tNoPart σ H QO := q
theorem r_part (q : te σ H fun x H1 => ∃ i, x = .int i ∧ QO (some i) H1) : tPart te σ H QO := q
theorem r_ki {P : Int → Prop} {i : Int} (q : P i) : ∃ k, V.int i = .int k ∧ P k := ⟨i, rfl, q⟩
theorem r_bm0 {T : String} {r : V → List V → Hp → VK → Prop} (q : te σ H fun x H1 => tyV K T x H1 ∧ r x [] H1 Q) : tBM0 K T r te σ H Q := q
theorem r_bm {T : String} {r : V → List V → Hp → VK → Prop} (q : te σ H fun x H1 => tyV K T x H1 ∧ tr σ H1 fun xs H2 => r x xs H2 Q) : tBM K T r te tr σ H Q := q
theorem r_rev (q : te σ H fun x H1 => ∃ a xs, x = .ref a ∧ SqL K H1 a xs ∧ ∀ p, H1 p = none → Q (.ref p) (upd H1 p (.lst xs.reverse))) : tRevL K te σ H Q := q
theorem ty_list {p : Addr} {xs : List V} (h : H p = some (.lst xs)) : tyV K "list" (.ref p) H := .inl ⟨rfl, _, SqL.of h⟩
theorem r_pop {p : Addr} {xs : List V} {y : V} (h : H p = some (.lst (xs ++ [y]))) (q : Q y (upd H p (.lst xs))) : rPop (.ref p) [] H Q := by
  refine ⟨p, xs ++ [y], y, rfl, rfl, h, by simp, ?_⟩
  rw [List.dropLast_concat]
  exact q
theorem r_append {p : Addr} {xs : List V} (h : H p = some (.lst xs)) (l : xs.length ≤ 1000) (q : Q .non (upd H p (.lst (xs ++ [y])))) : rAppend (.ref p) [y] H Q := ⟨p, xs, y, rfl, rfl, h, Nat.lt_of_le_of_lt l (by decide), q⟩
end
theorem dp_ints {K : PySem.W.Frag} {H : Hp} : ∀ xs : List Int, DpAll K H (xs.map V.int) (xs.map PyData.int)
  | [] => .nil
  | x :: xs => .cons (.int x) (dp_ints xs)
theorem lay_ints : ∀ xs : List Int, PyData.canLayAll0 (xs.map PyData.int) = true ∧ PyData.depthAll (xs.map PyData.int) = 0
  | [] => ⟨rfl, rfl⟩
  | x :: xs => by
    obtain ⟨a, b⟩ := lay_ints xs
    constructor
    · show (PyData.canLay0 (.int x) && PyData.canLayAll0 (xs.map PyData.int)) = true
      rw [a]; rfl
    · show max (PyData.depth (.int x)) (PyData.depthAll (xs.map PyData.int)) = 0
      rw [b]; rfl
theorem shaped_ints (xs : List Int) : SeqAt.shaped (.list (xs.map PyData.int)) = true := by
  obtain ⟨a, b⟩ := lay_ints xs
  have a' : PyData.canLay0 (.list (xs.map PyData.int)) = true := by rw [PyData.canLay0]; exact a
  have b' : PyData.depth (.list (xs.map PyData.int)) = 1 := by rw [PyData.depth, b]
  unfold SeqAt.shaped
  rw [a', b']; rfl
theorem eqv_ints : ∀ xs ys : List Int, PyData.eqvAll (xs.map PyData.int) (ys.map PyData.int) = decide (xs = ys)
  | [], [] => rfl
  | [], _ :: _ => by simp [PyData.eqvAll]
  | _ :: _, [] => by simp [PyData.eqvAll]
  | x :: xs, y :: ys => by
    show (PyData.eqv (.int x) (.int y) && PyData.eqvAll (xs.map PyData.int) (ys.map PyData.int)) = _
    rw [eqv_ints xs ys]
    show ((x == y) && decide (xs = ys)) = _
    rw [Bool.eq_iff_iff]; simp
theorem r_neInts {K : PySem.W.Frag} {H : Hp} {Q : VK} {p q : Addr} {xs ys : List Int} (h : SqL K H p (xs.map V.int)) (h' : SqL K H q (ys.map V.int)) (k : Q (.bl (!decide (xs = ys))) H) : rNeD K (.ref p) (.ref q) H Q :=
  ⟨.list (xs.map PyData.int), .list (ys.map PyData.int), .lst h (dp_ints xs), .lst h' (dp_ints ys), shaped_ints xs, shaped_ints ys, by
    rw [PyData.eqv, eqv_ints]; exact k⟩
theorem cut_ints (ns : List Int) (k : Int) : ∃ ms : List Int, cutV (ns.map V.int) none (some k) = ms.map V.int ∧ ms.length ≤ ns.length := by
  unfold cutV
  rw [← List.map_drop, ← List.map_take]
  exact ⟨_, rfl, by rw [List.length_take, List.length_drop]; omega⟩
end My
namespace My
open PySem L2
theorem r_forT {σ : L2.St} {H : Hp} {K : PySem.W.Frag} {tl : TE} {g : TG} {tb : TS} {D : Ends} (q : tl σ H fun x H1 => ∃ a, x = .ref a ∧ (∃ xs, SqT K H1 a xs) ∧ ∃ W : Nat → Nat → L2.St → Hp → Prop, (∃ m, W 0 m σ H1) ∧ ∀ i m σ H, W i m σ H →
    ((Itt K a).stop i H ∧ D.nx σ H) ∨ ((Itt K a).go i H ∧ ∃ N : L2.St → Hp → Prop, (∀ σ' H', N σ' H' → ∃ m', m' < m ∧ W (i + 1) m' σ' H') ∧ ∀ x H', (Itt K a).yld i H x H' → g x σ H' fun σ2 H2 => tb { D with nx := N, ct := N, bk := D.nx } σ2 H2)) : tFor (iTup K tl) g tb D σ H := q
end My

local macro_rules | `(tactic| walk_at "rd1") => `(tactic| first
  | with_reducible refine My.r_seq ?_
  | with_reducible refine My.r_asg ?_
  | with_reducible refine My.r_name ?_
  | with_reducible refine My.r_cons ?_
  | with_reducible refine My.r_nil ?_
  | with_reducible refine My.r_op ?_
  | ((with_reducible refine My.r_var ?_); refine ⟨_, rfl, ?_⟩)
  | with_reducible refine My.r_c ?_
  | with_reducible refine My.r_I0 ?_
  | with_reducible refine My.r_eqI ?_
  | with_reducible refine My.r_neI ?_
  | with_reducible refine My.r_eqS ?_
  | with_reducible refine My.r_eqB ?_
  | with_reducible refine My.r_test ?_
  | with_reducible refine My.r_B ?_
  | with_reducible refine My.r_k ?_
  | with_reducible refine My.r_un ?_
  | with_reducible refine My.r_U ?_
  | with_reducible refine My.r_ifs ?_
  | with_reducible refine My.r_ret ?_
  | with_reducible refine My.r_next ?_
  | with_reducible refine My.r_drop ?_
  | with_reducible refine My.r_CB ?_
  | with_reducible refine My.r_call ?_
  | with_reducible refine My.r_callN ?_
  | with_reducible refine My.r_meth ?_
  | with_reducible refine My.r_make ?_
  | with_reducible refine My.r_tup ?_
  | with_reducible refine My.r_lst ?_
  | with_reducible refine My.r_fldT ?_
  | with_reducible refine My.r_sFld ?_
  | with_reducible refine My.r_and ?_
  | with_reducible refine My.r_or ?_
  | with_reducible refine My.r_not ?_
  | with_reducible refine My.r_andV ?_
  | with_reducible refine My.r_orV ?_
  | with_reducible refine My.r_notV ?_
  | with_reducible refine My.r_if ?_
  | with_reducible refine My.r_gsub ?_
  | with_reducible refine My.r_sl ?_
  | with_reducible refine My.r_noPart ?_
  | with_reducible refine My.r_part ?_
  | with_reducible refine My.r_ki ?_
  | with_reducible refine My.r_bm0 ?_
  | with_reducible refine My.r_bm ?_
  | with_reducible refine My.r_rev ?_
  | ((with_reducible refine My.r_I ?_ ?_); (first | decide | exact .inl ⟨by decide, by decide⟩ | exact .inr ⟨by decide, by decide⟩ | exact ⟨by decide, by decide⟩ | exact ⟨by decide, by decide, by decide⟩)))
local macro_rules | `(tactic| walk_at "rd") => `(tactic| (repeat walk_at "rd1"))


namespace My
/-! ### rounded twice -/
def isHalf : Way → Bool
  | .heven | .hodd | .hup | .hdown => true
  | _ => false
/-- at the middle beyond l: whether up -/
def tieUp : Way → Int → Bool
  | .hup, l => decide (0 ≤ l)
  | .hdown, l => decide (l < 0)
  | .heven, l => decide (l % 2 = 1)
  | .hodd, l => decide (l % 2 = 0)
  | _, _ => false
theorem nearerB_lo {p : Rat} {a : Bool} (h : p < 1 / 2) : nearerB p a = false := by
  have d := p.den_pos
  have e : p.num * 2 < 1 * (p.den : Int) := by
    have := (Rat.lt_iff p (1 / 2)).mp h
    have h1 : ((1 : Rat) / 2).num = 1 := by decide +kernel
    have h2 : ((1 : Rat) / 2).den = 2 := by decide +kernel
    rw [h1, h2] at this
    exact this
  unfold nearerB
  rw [if_neg (by omega)]
  exact decide_eq_false (by omega)
theorem nearerB_hi {p : Rat} {a : Bool} (h : 1 / 2 < p) : nearerB p a = true := by
  have d := p.den_pos
  have e : 1 * (p.den : Int) < p.num * 2 := by
    have := (Rat.lt_iff (1 / 2) p).mp h
    have h1 : ((1 : Rat) / 2).num = 1 := by decide +kernel
    have h2 : ((1 : Rat) / 2).den = 2 := by decide +kernel
    rw [h1, h2] at this
    exact this
  unfold nearerB
  rw [if_neg (by omega)]
  exact decide_eq_true (by omega)
theorem nearerB_mid (a : Bool) : nearerB (1 / 2) a = a := by cases a <;> decide +kernel
theorem ruleB_lo {r : Way} (h : isHalf r = true) (l : Int) {p : Rat} (hp : p < 1 / 2) : ruleB r l p = false := by
  cases r <;> first | exact absurd h (by decide) | exact nearerB_lo hp
theorem ruleB_hi {r : Way} (h : isHalf r = true) (l : Int) {p : Rat} (hp : 1 / 2 < p) : ruleB r l p = true := by
  cases r <;> first | exact absurd h (by decide) | exact nearerB_hi hp
theorem ruleB_mid {r : Way} (h : isHalf r = true) (l : Int) : ruleB r l (1 / 2) = tieUp r l := by
  cases r <;> first | exact absurd h (by decide) | exact nearerB_mid _
theorem taken_int (r : Way) (c : Int) : takenQ r (c : Rat) = c := by
  have e : partQ (c : Rat) = 0 := by unfold partQ; rw [Rat.floor_intCast]; grind
  unfold takenQ
  rw [e, Rat.floor_intCast]
  rfl
/-- nearer than a half -/
theorem taken_near {r : Way} (h : isHalf r = true) {n : Rat} {t : Int} (h1 : (t : Rat) - 1 / 2 < n) (h2 : n < (t : Rat) + 1 / 2) : takenQ r n = t := by
  by_cases h0 : n = (t : Rat)
  · rw [h0]
    exact taken_int r t
  · by_cases hp : (t : Rat) < n
    · have e : n = (t : Rat) + (n - t) := by grind
      rw [e, taken_add (by grind) (by grind), ruleB_lo h t (by grind)]
      rfl
    · have e : n = ((t - 1 : Int) : Rat) + (n - t + 1) := by rw [Rat.intCast_sub]; grind
      rw [e, taken_add (by grind) (by grind), ruleB_hi h (t - 1) (by grind)]
      show t - 1 + 1 = t
      omega
theorem taken_mid {r : Way} (h : isHalf r = true) (l : Int) : takenQ r ((l : Rat) + 1 / 2) = if tieUp r l = true then l + 1 else l := by
  rw [taken_add (by decide +kernel) (by decide +kernel), ruleB_mid h l]
/-- every number is near one, or in the middle -/
theorem near_or_mid (n : Rat) : (∃ t : Int, (t : Rat) - 1 / 2 < n ∧ n < (t : Rat) + 1 / 2) ∨ ∃ l : Int, n = (l : Rat) + 1 / 2 := by
  have a := Rat.floor_le n
  have b := Rat.lt_floor_add_one n
  rw [Rat.intCast_add] at b
  by_cases h : n = (n.floor : Rat) + 1 / 2
  · exact .inr ⟨_, h⟩
  · by_cases h2 : n < (n.floor : Rat) + 1 / 2
    · exact .inl ⟨n.floor, by grind, h2⟩
    · exact .inl ⟨n.floor + 1, by rw [Rat.intCast_add]; grind, by rw [Rat.intCast_add]; grind⟩
def twiceT (r : Way) (m : Int) (u : Rat) : Int := takenQ r ((takenQ r u : Rat) / (m : Rat))
def onceT (r : Way) (m : Int) (u : Rat) : Int := takenQ r (u / (m : Rat))
theorem div_near {r : Way} (h : isHalf r = true) {m : Int} (hm : 0 < m) {s : Int} {n : Rat} (h1 : (s : Rat) * m - (m : Rat) / 2 < n) (h2 : n < (s : Rat) * m + (m : Rat) / 2) : takenQ r (n / (m : Rat)) = s := by
  have hm' : (0 : Rat) < (m : Rat) := Rat.intCast_pos.mpr hm
  refine taken_near h ?_ ?_
  · exact (Rat.lt_div_iff hm').mpr (by grind)
  · exact (Rat.div_lt_iff hm').mpr (by grind)
theorem div_mid {r : Way} (h : isHalf r = true) {m : Int} (hm : 0 < m) {s : Int} {n : Rat} (h1 : n = (s : Rat) * m + (m : Rat) / 2) : takenQ r (n / (m : Rat)) = if tieUp r s = true then s + 1 else s := by
  have hm' : (m : Rat) ≠ 0 := by have : (0 : Rat) < (m : Rat) := Rat.intCast_pos.mpr hm; grind
  rw [← taken_mid h s, h1]
  congr 1
  grind
theorem split_odd (j h : Int) (h0 : 0 ≤ h) : ∃ s e : Int, j = s * (2 * h + 1) + e ∧ -h ≤ e ∧ e ≤ h := by
  refine ⟨(j + h) / (2 * h + 1), (j + h) % (2 * h + 1) - h, ?_, ?_, ?_⟩
  · have := Int.mul_ediv_add_emod (j + h) (2 * h + 1)
    rw [Int.mul_comm] at this
    omega
  · have := Int.emod_nonneg (j + h) (b := 2 * h + 1) (by omega)
    omega
  · have := Int.emod_lt_of_pos (j + h) (b := 2 * h + 1) (by omega)
    omega
/-- by an odd number of steps -/
theorem never_odd {r : Way} (hr : isHalf r = true) {h : Int} (h0 : 0 ≤ h) (tie : ∀ s : Int, tieUp r (s * (2 * h + 1) + h) = tieUp r s) (u : Rat) : twiceT r (2 * h + 1) u = onceT r (2 * h + 1) u := by
  have hm : 0 < 2 * h + 1 := by omega
  have c : (((2 * h + 1 : Int)) : Rat) = 2 * (h : Rat) + 1 := by rw [Rat.intCast_add, Rat.intCast_mul]; rfl
  have hq : (0 : Rat) ≤ (h : Rat) := Rat.intCast_nonneg.mpr h0
  unfold twiceT onceT
  rcases near_or_mid u with ⟨j, h1, h2⟩ | ⟨l, hl⟩
  · obtain ⟨s, e, ej, e1, e2⟩ := split_odd j h h0
    have q1 : -(h : Rat) ≤ (e : Rat) := by have := Rat.intCast_le_intCast.mpr e1; rw [Rat.intCast_neg] at this; exact this
    have q2 : (e : Rat) ≤ (h : Rat) := Rat.intCast_le_intCast.mpr e2
    have ejq : (j : Rat) = (s : Rat) * (2 * (h : Rat) + 1) + (e : Rat) := by rw [ej, Rat.intCast_add, Rat.intCast_mul, c]
    rw [taken_near hr h1 h2, div_near hr hm (s := s) (by rw [c]; grind) (by rw [c]; grind), div_near hr hm (s := s) (by rw [c]; grind) (by rw [c]; grind)]
  · obtain ⟨s, e, ej, e1, e2⟩ := split_odd l h h0
    have q1 : -(h : Rat) ≤ (e : Rat) := by have := Rat.intCast_le_intCast.mpr e1; rw [Rat.intCast_neg] at this; exact this
    have ejq : (l : Rat) = (s : Rat) * (2 * (h : Rat) + 1) + (e : Rat) := by rw [ej, Rat.intCast_add, Rat.intCast_mul, c]
    subst hl
    rw [taken_mid hr l]
    by_cases he : e = h
    · subst he
      rw [ej, tie s]
      rw [div_mid hr hm (s := s) (n := ((s * (2 * e + 1) + e : Int) : Rat) + 1 / 2) (by rw [← ej, ejq, c]; grind)]
      cases tieUp r s with
      | true =>
        rw [if_pos rfl, if_pos rfl]
        exact div_near hr hm (by simp only [Rat.intCast_add, Rat.intCast_mul, Rat.intCast_sub, Rat.intCast_ofNat, Rat.intCast_one]; grind) (by simp only [Rat.intCast_add, Rat.intCast_mul, Rat.intCast_sub, Rat.intCast_ofNat, Rat.intCast_one]; grind)
      | false =>
        rw [if_neg Bool.false_ne_true, if_neg Bool.false_ne_true]
        exact div_near hr hm (by simp only [Rat.intCast_add, Rat.intCast_mul, Rat.intCast_sub, Rat.intCast_ofNat, Rat.intCast_one]; grind) (by simp only [Rat.intCast_add, Rat.intCast_mul, Rat.intCast_sub, Rat.intCast_ofNat, Rat.intCast_one]; grind)
    · have q2 : (e : Rat) + 1 ≤ (h : Rat) := by
        have := Rat.intCast_le_intCast.mpr (show e + 1 ≤ h by omega)
        rw [Rat.intCast_add] at this
        exact this
      rw [div_near hr hm (s := s) (n := (l : Rat) + 1 / 2) (by rw [c]; grind) (by rw [c]; grind)]
      split
      · exact div_near hr hm (by simp only [Rat.intCast_add, Rat.intCast_mul, Rat.intCast_sub, Rat.intCast_ofNat, Rat.intCast_one]; grind) (by simp only [Rat.intCast_add, Rat.intCast_mul, Rat.intCast_sub, Rat.intCast_ofNat, Rat.intCast_one]; grind)
      · exact div_near hr hm (by rw [c]; grind) (by rw [c]; grind)
/-! ### the ways that look at no halves -/
theorem low_eq (n : Rat) : takenQ .low n = n.floor := by
  unfold takenQ
  split <;> rfl
theorem part_zero {n : Rat} : (partQ n).num = 0 ↔ n = (n.floor : Rat) := by
  rw [Rat.num_eq_zero]
  unfold partQ
  constructor <;> intro h <;> grind
/-- the greater neighbour is told by inequalities -/
theorem high_of {n : Rat} {t : Int} (h1 : (t : Rat) - 1 < n) (h2 : n ≤ (t : Rat)) : takenQ .high n = t := by
  have a := Rat.floor_le n
  have b := Rat.lt_floor_add_one n
  rw [Rat.intCast_add] at b
  unfold takenQ
  by_cases h : n = (n.floor : Rat)
  · rw [if_pos (part_zero.mpr h)]
    have x1 : n.floor < t + 1 := Rat.intCast_lt_intCast.mp (by rw [Rat.intCast_add]; grind)
    have x2 : t - 1 < n.floor := Rat.intCast_lt_intCast.mp (by rw [Rat.intCast_sub]; grind)
    omega
  · rw [if_neg (fun z => h (part_zero.mp z)), if_pos (show ruleB .high n.floor (partQ n) = true from rfl)]
    have x1 : n.floor < t := Rat.intCast_lt_intCast.mp (by grind)
    have x2 : t - 1 < n.floor + 1 := Rat.intCast_lt_intCast.mp (by rw [Rat.intCast_sub, Rat.intCast_add]; grind)
    omega
theorem high_is (n : Rat) : (takenQ .high n : Rat) - 1 < n ∧ n ≤ (takenQ .high n : Rat) := by
  have a := Rat.floor_le n
  have b := Rat.lt_floor_add_one n
  rw [Rat.intCast_add] at b
  unfold takenQ
  by_cases h : n = (n.floor : Rat)
  · rw [if_pos (part_zero.mpr h)]
    grind
  · rw [if_neg (fun z => h (part_zero.mp z)), if_pos (show ruleB .high n.floor (partQ n) = true from rfl), Rat.intCast_add]
    grind
theorem low_of {n : Rat} {t : Int} (h1 : (t : Rat) ≤ n) (h2 : n < (t : Rat) + 1) : takenQ .low n = t := by
  rw [low_eq]
  have x1 : t ≤ n.floor := Rat.le_floor_iff.mpr h1
  have x2 : n.floor < t + 1 := Rat.floor_lt_iff.mpr (by rw [Rat.intCast_add]; exact h2)
  omega
theorem up_eq (n : Rat) : takenQ .up n = if 0 ≤ n.floor then takenQ .high n else takenQ .low n := by
  unfold takenQ
  by_cases h : (partQ n).num = 0
  · rw [if_pos h, if_pos h, if_pos h]; split <;> rfl
  · rw [if_neg h, if_neg h, if_neg h]
    show (if decide (0 ≤ n.floor) = true then _ else _) = _
    by_cases z : 0 ≤ n.floor
    · rw [if_pos (decide_eq_true z), if_pos z]; rfl
    · rw [if_neg (by simpa using z), if_neg z]; rfl
theorem down_eq (n : Rat) : takenQ .down n = if n.floor < 0 then takenQ .high n else takenQ .low n := by
  unfold takenQ
  by_cases h : (partQ n).num = 0
  · rw [if_pos h, if_pos h, if_pos h]; split <;> rfl
  · rw [if_neg h, if_neg h, if_neg h]
    show (if decide (n.floor < 0) = true then _ else _) = _
    by_cases z : n.floor < 0
    · rw [if_pos (decide_eq_true z), if_pos z]; rfl
    · rw [if_neg (by simpa using z), if_neg z]; rfl
theorem low_is (n : Rat) : (takenQ .low n : Rat) ≤ n ∧ n < (takenQ .low n : Rat) + 1 := by
  rw [low_eq]
  have b := Rat.lt_floor_add_one n
  rw [Rat.intCast_add] at b
  exact ⟨Rat.floor_le n, b⟩
/-- of a whole number of steps: by wholes alone -/
theorem low_div {m : Int} (hm : 0 < m) (u : Rat) : takenQ .low ((takenQ .low u : Rat) / (m : Rat)) = takenQ .low (u / (m : Rat)) := by
  have hm' : (0 : Rat) < (m : Rat) := Rat.intCast_pos.mpr hm
  obtain ⟨a, b⟩ := low_is (u / (m : Rat))
  obtain ⟨c, d⟩ := low_is u
  generalize takenQ .low (u / (m : Rat)) = t at *
  generalize takenQ .low u = j at *
  have e : u / (m : Rat) * m = u := by grind
  have a' : (t : Rat) * m ≤ u := by rw [← e]; exact Rat.mul_le_mul_of_nonneg_right a (Rat.le_of_lt hm')
  have b' : u < ((t : Rat) + 1) * m := by rw [← e]; exact Rat.mul_lt_mul_of_pos_right b hm'
  have x1 : t * m < j + 1 := Rat.intCast_lt_intCast.mp (by rw [Rat.intCast_add, Rat.intCast_mul]; grind)
  have x2 : j < (t + 1) * m := Rat.intCast_lt_intCast.mp (by rw [Rat.intCast_mul, Rat.intCast_add]; grind)
  have y1 : (t : Rat) * m ≤ (j : Rat) := by rw [← Rat.intCast_mul]; exact Rat.intCast_le_intCast.mpr (by omega)
  have y2 : (j : Rat) < ((t : Rat) + 1) * m := by have := Rat.intCast_lt_intCast.mpr x2; rw [Rat.intCast_mul, Rat.intCast_add] at this; exact this
  refine low_of ?_ ((Rat.div_lt_iff hm').mpr y2)
  have := (Rat.not_lt (a := (j : Rat) / m) (b := (t : Rat))).mp (fun z => by
    have := (Rat.div_lt_iff hm').mp z
    grind)
  exact this
theorem high_div {m : Int} (hm : 0 < m) (u : Rat) : takenQ .high ((takenQ .high u : Rat) / (m : Rat)) = takenQ .high (u / (m : Rat)) := by
  have hm' : (0 : Rat) < (m : Rat) := Rat.intCast_pos.mpr hm
  obtain ⟨a, b⟩ := high_is (u / (m : Rat))
  obtain ⟨c, d⟩ := high_is u
  generalize takenQ .high (u / (m : Rat)) = t at *
  generalize takenQ .high u = j at *
  have e : u / (m : Rat) * m = u := by grind
  have a' : ((t : Rat) - 1) * m < u := by rw [← e]; exact Rat.mul_lt_mul_of_pos_right a hm'
  have b' : u ≤ (t : Rat) * m := by rw [← e]; exact Rat.mul_le_mul_of_nonneg_right b (Rat.le_of_lt hm')
  have x1 : (t - 1) * m < j := Rat.intCast_lt_intCast.mp (by rw [Rat.intCast_mul, Rat.intCast_sub]; grind)
  have x2 : j - 1 < t * m := Rat.intCast_lt_intCast.mp (by rw [Rat.intCast_sub, Rat.intCast_mul]; grind)
  have y1 : ((t : Rat) - 1) * m < (j : Rat) := by have := Rat.intCast_lt_intCast.mpr x1; rw [Rat.intCast_mul, Rat.intCast_sub] at this; exact this
  have y2 : (j : Rat) ≤ (t : Rat) * m := by rw [← Rat.intCast_mul]; exact Rat.intCast_le_intCast.mpr (by omega)
  refine high_of ((Rat.lt_div_iff hm').mpr y1) ?_
  exact (Rat.not_lt (a := (t : Rat)) (b := (j : Rat) / m)).mp (fun z => by
    have := (Rat.lt_div_iff hm').mp z
    grind)
theorem floor_nn {n : Rat} : 0 ≤ n.floor ↔ 0 ≤ n := by
  rw [Rat.le_floor_iff]; rfl
theorem div_nn {m : Int} (hm : 0 < m) {n : Rat} : 0 ≤ n / (m : Rat) ↔ 0 ≤ n := by
  have hm' : (0 : Rat) < (m : Rat) := Rat.intCast_pos.mpr hm
  constructor
  · intro h
    have e : n / (m : Rat) * m = n := by grind
    rw [← e]
    exact Rat.mul_nonneg h (Rat.le_of_lt hm')
  · intro h
    exact (Rat.not_lt).mp (fun z => by
      have := (Rat.div_lt_iff hm').mp z
      grind)
theorem never_whole {r : Way} (hr : isHalf r = false) {m : Int} (hm : 0 < m) (u : Rat) : twiceT r m u = onceT r m u := by
  unfold twiceT onceT
  cases r with
  | hup => cases hr
  | hdown => cases hr
  | heven => cases hr
  | hodd => cases hr
  | low => exact low_div hm u
  | high => exact high_div hm u
  | up =>
    obtain ⟨c, d⟩ := high_is u
    obtain ⟨c2, d2⟩ := low_is u
    by_cases h : 0 ≤ u
    · have hj : (0 : Rat) ≤ (takenQ .high u : Rat) := Rat.le_trans h d
      rw [up_eq u, if_pos (floor_nn.mpr h), up_eq, if_pos (floor_nn.mpr ((div_nn hm).mpr hj)), up_eq, if_pos (floor_nn.mpr ((div_nn hm).mpr h)), high_div hm]
    · have hj : ¬ (0 : Rat) ≤ (takenQ .low u : Rat) := fun z => h (Rat.le_trans z c2)
      rw [up_eq u, if_neg (fun z => h (floor_nn.mp z)), up_eq, if_neg (fun z => hj ((div_nn hm).mp (floor_nn.mp z))), up_eq, if_neg (fun z => h ((div_nn hm).mp (floor_nn.mp z))), low_div hm]
  | down =>
    obtain ⟨c, d⟩ := high_is u
    obtain ⟨c2, d2⟩ := low_is u
    have neg : ∀ n : Rat, n.floor < 0 ↔ ¬ 0 ≤ n := fun n => by
      rw [← floor_nn]
      omega
    by_cases h : 0 ≤ u
    · have j0 : 0 ≤ takenQ .low u := by rw [low_eq]; exact floor_nn.mpr h
      have hj : (0 : Rat) ≤ (takenQ .low u : Rat) := Rat.intCast_nonneg.mpr j0
      rw [down_eq u, if_neg (fun z => (neg u).mp z h), down_eq, if_neg (fun z => (neg _).mp z ((div_nn hm).mpr hj)), down_eq, if_neg (fun z => (neg _).mp z ((div_nn hm).mpr h)), low_div hm]
    · rw [down_eq u, if_pos ((neg u).mpr h), down_eq (u / (m : Rat)), if_pos ((neg _).mpr fun z => h ((div_nn hm).mp z)), ← high_div hm u]
      by_cases hj : 0 ≤ (takenQ .high u : Rat)
      · have e0 : takenQ .high u = 0 := by
          have x1 : 0 ≤ takenQ .high u := Rat.intCast_nonneg.mp hj
          have x2 : takenQ .high u - 1 < 0 := Rat.intCast_neg_iff.mp (by rw [Rat.intCast_sub]; grind)
          omega
        rw [e0]
        have e1 : ((0 : Int) : Rat) / (m : Rat) = ((0 : Int) : Rat) := by grind
        rw [e1, taken_int, taken_int]
      · rw [down_eq, if_pos ((neg _).mpr fun z => hj ((div_nn hm).mp z))]
/-! ### the three numbers that are tried -/
def partsW (r : Way) (m : Int) : Bool := isHalf r && (decide (m % 2 = 0) || ((match r with | .heven => true | .hodd => true | _ => false) && decide (m % 4 = 3)))
def candU (m : Int) : List Rat := [(m : Rat) / 2 - 1 / 4, (m : Rat) / 2, (m : Rat) / 2 + 1 / 4]
theorem never_of {r : Way} {m : Int} (hm : 2 ≤ m) (h : partsW r m = false) (u : Rat) : twiceT r m u = onceT r m u := by
  cases hr : isHalf r with
  | false => exact never_whole hr (by omega) u
  | true =>
    have hodd : m % 2 = 1 := by
      by_cases z : m % 2 = 0
      · unfold partsW at h
        rw [hr, decide_eq_true z] at h
        cases h
      · omega
    obtain ⟨k, rfl⟩ : ∃ k, m = 2 * k + 1 := ⟨m / 2, by omega⟩
    refine never_odd hr (by omega) (fun s => ?_) u
    have key : s * (2 * k + 1) + k = 2 * (s * k) + s + k := by grind
    cases r with
    | up => cases hr
    | down => cases hr
    | high => cases hr
    | low => cases hr
    | hup =>
      show decide (0 ≤ s * (2 * k + 1) + k) = decide (0 ≤ s)
      rw [decide_eq_decide]
      constructor
      · intro z
        by_cases q : 0 ≤ s
        · exact q
        · have : s * (2 * k + 1) ≤ -1 * (2 * k + 1) := Int.mul_le_mul_of_nonneg_right (by omega) (by omega)
          omega
      · intro z
        have := Int.mul_nonneg z (show 0 ≤ 2 * k + 1 by omega)
        omega
    | hdown =>
      show decide (s * (2 * k + 1) + k < 0) = decide (s < 0)
      rw [decide_eq_decide]
      constructor
      · intro z
        by_cases q : s < 0
        · exact q
        · have := Int.mul_nonneg (show 0 ≤ s by omega) (show 0 ≤ 2 * k + 1 by omega)
          omega
      · intro z
        have : s * (2 * k + 1) ≤ -1 * (2 * k + 1) := Int.mul_le_mul_of_nonneg_right (by omega) (by omega)
        omega
    | heven =>
      have h4 : ¬ (2 * k + 1) % 4 = 3 := fun z => by
        unfold partsW at h
        rw [decide_eq_true z, Bool.and_true, Bool.or_true] at h
        cases h
      show decide ((s * (2 * k + 1) + k) % 2 = 1) = decide (s % 2 = 1)
      rw [decide_eq_decide, key]
      omega
    | hodd =>
      have h4 : ¬ (2 * k + 1) % 4 = 3 := fun z => by
        unfold partsW at h
        rw [decide_eq_true z, Bool.and_true, Bool.or_true] at h
        cases h
      show decide ((s * (2 * k + 1) + k) % 2 = 0) = decide (s % 2 = 0)
      rw [decide_eq_decide, key]
      omega
theorem some_of {r : Way} {m : Int} (hm : 2 ≤ m) (h : partsW r m = true) : ∃ u ∈ candU m, twiceT r m u ≠ onceT r m u := by
  have hr : isHalf r = true := by
    unfold partsW at h
    exact (Bool.and_eq_true_iff.mp h).1
  have hmq : (2 : Rat) ≤ (m : Rat) := by have := Rat.intCast_le_intCast.mpr hm; exact this
  unfold twiceT onceT
  by_cases z : m % 2 = 0
  · obtain ⟨k, rfl⟩ : ∃ k, m = 2 * k := ⟨m / 2, by omega⟩
    have c : (((2 * k : Int)) : Rat) = 2 * (k : Rat) := by rw [Rat.intCast_mul]; rfl
    have hk : (1 : Rat) ≤ (k : Rat) := by have := Rat.intCast_le_intCast.mpr (show 1 ≤ k by omega); exact this
    have c0 : ((0 : Int) : Rat) = 0 := rfl
    have c1 : ((1 : Int) : Rat) = 1 := rfl
    have e1 : takenQ r ((((2 * k : Int)) : Rat) / 2 - 1 / 4) = k := taken_near hr (by rw [c]; grind) (by rw [c]; grind)
    have e3 : takenQ r ((((2 * k : Int)) : Rat) / 2 + 1 / 4) = k := taken_near hr (by rw [c]; grind) (by rw [c]; grind)
    have ek : takenQ r ((k : Rat) / ((2 * k : Int) : Rat)) = if tieUp r 0 = true then 0 + 1 else 0 := div_mid hr (by omega) (by rw [c, c0]; grind)
    cases t : tieUp r 0 with
    | true =>
      refine ⟨_, List.mem_cons_self, ?_⟩
      rw [e1, ek, t, if_pos rfl, div_near hr (by omega) (s := 0) (by rw [c, c0]; grind) (by rw [c, c0]; grind)]
      decide
    | false =>
      refine ⟨_, List.mem_cons_of_mem _ (List.mem_cons_of_mem _ List.mem_cons_self), ?_⟩
      rw [e3, ek, t, if_neg Bool.false_ne_true, div_near hr (by omega) (s := 1) (by rw [c, c1]; grind) (by rw [c, c1]; grind)]
      decide
  · obtain ⟨k, rfl⟩ : ∃ k, m = 2 * k + 1 := ⟨m / 2, by omega⟩
    have c : (((2 * k + 1 : Int)) : Rat) = 2 * (k : Rat) + 1 := by rw [Rat.intCast_add, Rat.intCast_mul]; rfl
    have hk : (1 : Rat) ≤ (k : Rat) := by have := Rat.intCast_le_intCast.mpr (show 1 ≤ k by omega); exact this
    have c0 : ((0 : Int) : Rat) = 0 := rfl
    have c1 : ((1 : Int) : Rat) = 1 := rfl
    have e2 : takenQ r ((((2 * k + 1 : Int)) : Rat) / 2) = if tieUp r k = true then k + 1 else k := by
      rw [← taken_mid hr k]
      congr 1
      rw [c]; grind
    have o2 : takenQ r ((((2 * k + 1 : Int)) : Rat) / 2 / ((2 * k + 1 : Int) : Rat)) = if tieUp r 0 = true then 0 + 1 else 0 := div_mid hr (by omega) (by rw [c0]; grind)
    have h4 : (2 * k + 1) % 4 = 3 ∧ (r = .heven ∨ r = .hodd) := by
      unfold partsW at h
      rw [hr, decide_eq_false z] at h
      cases r <;> simp_all
    refine ⟨_, List.mem_cons_of_mem _ List.mem_cons_self, ?_⟩
    have up1 : takenQ r (((k + 1 : Int) : Rat) / ((2 * k + 1 : Int) : Rat)) = 1 := div_near hr (by omega) (by simp only [Rat.intCast_add, Rat.intCast_mul, Rat.intCast_sub, Rat.intCast_ofNat, Rat.intCast_one]; grind) (by simp only [Rat.intCast_add, Rat.intCast_mul, Rat.intCast_sub, Rat.intCast_ofNat, Rat.intCast_one]; grind)
    have lo1 : takenQ r ((k : Rat) / ((2 * k + 1 : Int) : Rat)) = 0 := div_near hr (by omega) (by rw [c, c0]; grind) (by rw [c, c0]; grind)
    rw [e2, o2]
    obtain ⟨h4, rfl | rfl⟩ := h4
    · have t1 : tieUp .heven k = true := decide_eq_true (by omega)
      rw [t1, if_pos rfl, up1]
      decide
    · have t1 : tieUp .hodd k = false := decide_eq_false (by omega)
      rw [t1, if_neg Bool.false_ne_true, lo1]
      decide
end My

namespace My
/-! ### farther by whole numbers; sizes -/
theorem taken_within (r : Way) (u : Rat) : (takenQ r u : Rat) < u + 1 ∧ u - 1 < (takenQ r u : Rat) := by
  have a := Rat.floor_le u
  have b := Rat.lt_floor_add_one u
  rw [Rat.intCast_add] at b
  unfold takenQ
  by_cases h : u = (u.floor : Rat)
  · rw [if_pos (part_zero.mpr h)]
    grind
  · rw [if_neg (fun z => h (part_zero.mp z))]
    split
    · rw [Rat.intCast_add]; grind
    · grind
theorem floor_shift (u : Rat) (j : Int) : (u + (j : Rat)).floor = u.floor + j := by
  have a := Rat.floor_le u
  have b := Rat.lt_floor_add_one u
  rw [Rat.intCast_add] at b
  have x : u.floor + j ≤ (u + (j : Rat)).floor := Rat.le_floor_iff.mpr (by rw [Rat.intCast_add]; grind)
  have y : (u + (j : Rat)).floor < u.floor + j + 1 := Rat.floor_lt_iff.mpr (by rw [Rat.intCast_add, Rat.intCast_add]; grind)
  omega
theorem part_shift (u : Rat) (j : Int) : partQ (u + (j : Rat)) = partQ u := by
  unfold partQ
  rw [floor_shift, Rat.intCast_add]
  grind
theorem rule_shift (r : Way) {l j : Int} (p : Rat) (hl : 0 ≤ l) (hj : 0 ≤ j) (h2 : j % 2 = 0) : ruleB r (l + j) p = ruleB r l p := by
  have e1 : decide (0 ≤ l + j) = decide (0 ≤ l) := by rw [decide_eq_decide]; omega
  have e2 : decide (l + j < 0) = decide (l < 0) := by rw [decide_eq_decide]; omega
  have e3 : decide ((l + j) % 2 = 1) = decide (l % 2 = 1) := by rw [decide_eq_decide]; omega
  have e4 : decide ((l + j) % 2 = 0) = decide (l % 2 = 0) := by rw [decide_eq_decide]; omega
  cases r <;> simp only [ruleB, e1, e2, e3, e4]
theorem taken_shift (r : Way) {u : Rat} {j : Int} (hu : 0 ≤ u) (hj : 0 ≤ j) (h2 : j % 2 = 0) : takenQ r (u + (j : Rat)) = takenQ r u + j := by
  unfold takenQ
  rw [part_shift, floor_shift, rule_shift r _ (floor_nn.mpr hu) hj h2]
  split
  · rfl
  · split <;> omega
theorem taken_nn (r : Way) {u : Rat} (hu : 0 ≤ u) : 0 ≤ takenQ r u := by
  have := floor_nn.mpr hu
  unfold takenQ
  split
  · exact this
  · split <;> omega
theorem twice_shift (r : Way) {m j : Int} {u : Rat} (hm : 0 < m) (hu : 0 ≤ u) (hj : 0 ≤ j) (h2 : j % 2 = 0) : twiceT r m (u + (j : Rat) * m) = twiceT r m u + j ∧ onceT r m (u + (j : Rat) * m) = onceT r m u + j := by
  have hm' : (0 : Rat) < (m : Rat) := Rat.intCast_pos.mpr hm
  have h3 : j * m % 2 = 0 := by
    obtain ⟨q, rfl⟩ : ∃ q, j = 2 * q := ⟨j / 2, by omega⟩
    rw [Int.mul_assoc]; omega
  have h4 : 0 ≤ j * m := Int.mul_nonneg hj (by omega)
  have e : (j : Rat) * (m : Rat) = ((j * m : Int) : Rat) := (Rat.intCast_mul _ _).symm
  unfold twiceT onceT
  constructor
  · rw [e, taken_shift r hu h4 h3, Rat.intCast_add, Rat.intCast_mul]
    have q : ((takenQ r u : Rat) + (j : Rat) * (m : Rat)) / (m : Rat) = (takenQ r u : Rat) / (m : Rat) + (j : Rat) := by grind
    rw [q, taken_shift r ((div_nn hm).mpr (Rat.intCast_nonneg.mpr (taken_nn r hu))) hj h2]
  · have q : (u + (j : Rat) * (m : Rat)) / (m : Rat) = u / (m : Rat) + (j : Rat) := by grind
    rw [q, taken_shift r ((div_nn hm).mpr hu) hj h2]
def absQ (x : Rat) : Rat := Rat.divInt (if x.num < 0 then -x.num else x.num) (x.den : Int)
theorem absQ_eq (x : Rat) : absQ x = if 0 ≤ x then x else -x := by
  unfold absQ
  by_cases h : 0 ≤ x
  · have : 0 ≤ x.num := Rat.num_nonneg.mpr h
    rw [if_pos h, if_neg (by omega), Rat.num_divInt_den]
  · have : ¬ 0 ≤ x.num := fun z => h (Rat.num_nonneg.mp z)
    rw [if_neg h, if_pos (by omega), ← Rat.neg_divInt, Rat.num_divInt_den]
theorem absQ_lt {x y : Rat} (h1 : x < y) (h2 : -y < x) : absQ x < y := by
  rw [absQ_eq]
  split <;> grind
theorem absQ_bd {n : Nat} {x : Rat} (h : Bd n x) : Bd n (absQ x) := by
  have := h.1
  refine Bd.of (den_ne x) (by split <;> omega) (by have := h.2; omega)
theorem lt_dec (x y : Rat) : decide (x < y) = decide (x.num * (y.den : Int) < y.num * (x.den : Int)) := by
  rw [decide_eq_decide]
  exact Rat.lt_iff x y
/-- rounded, a number lies within a step -/
theorem step_within {r : Way} {n x : Rat} (hx : 0 < x) : absQ (n - x * (takenQ r (n / x) : Rat)) < x := by
  obtain ⟨a, b⟩ := taken_within r (n / x)
  have e : n = n / x * x := by grind
  have p : (takenQ r (n / x) : Rat) * x < (n / x + 1) * x := Rat.mul_lt_mul_of_pos_right a hx
  have q : (n / x - 1) * x < (takenQ r (n / x) : Rat) * x := Rat.mul_lt_mul_of_pos_right b hx
  refine absQ_lt ?_ ?_ <;> grind
end My

namespace My
/-! ### powers of ten -/
def T10 (p : Int) : Rat := (10 : Rat) ^ p
theorem T10_pos (p : Int) : 0 < T10 p := Rat.zpow_pos (by decide +kernel)
theorem T10_ne (p : Int) : T10 p ≠ 0 := by have := T10_pos p; grind
theorem T10_add (p q : Int) : T10 (p + q) = T10 p * T10 q := Rat.zpow_add (by decide +kernel) p q
theorem T10_zero : T10 0 = 1 := Rat.zpow_zero _
theorem T10_one : T10 1 = 10 := by
  have := Rat.zpow_add_one (q := 10) (by decide +kernel) 0
  rw [Rat.zpow_zero] at this
  show (10 : Rat) ^ (1 : Int) = 10
  rw [show (1 : Int) = 0 + 1 from rfl, this]
  grind
theorem T10_succ (p : Int) : T10 (p + 1) = T10 p * 10 := by rw [T10_add, T10_one]
theorem T10_nat (n : Nat) : T10 (n : Int) = ((10 ^ n : Int) : Rat) := by
  induction n with
  | zero => exact T10_zero
  | succ n ih =>
    rw [Int.natCast_succ, T10_succ, ih, Int.pow_succ, Rat.intCast_mul]
    rfl
theorem T10_neg (p : Int) : T10 (-p) = 1 / T10 p := by
  have : T10 (-p) * T10 p = 1 := by rw [← T10_add, Int.add_left_neg]; exact T10_zero
  have := T10_ne p
  grind
theorem T10_lt_nat (p : Int) (n : Nat) : T10 p < T10 (p + ((n : Int) + 1)) := by
  have hp := T10_pos p
  induction n with
  | zero =>
    show T10 p < T10 (p + 1)
    rw [T10_succ]
    grind
  | succ n ih =>
    have e : p + (((n + 1 : Nat) : Int) + 1) = p + ((n : Int) + 1) + 1 := by omega
    have := T10_pos (p + ((n : Int) + 1))
    rw [e, T10_succ]
    grind
theorem T10_lt {p q : Int} (h : p < q) : T10 p < T10 q := by
  have := T10_lt_nat p (q - p - 1).toNat
  have e : p + (((q - p - 1).toNat : Int) + 1) = q := by omega
  rw [e] at this
  exact this
theorem T10_le {p q : Int} (h : p ≤ q) : T10 p ≤ T10 q := by
  by_cases e : p = q
  · rw [e]; exact Rat.le_refl
  · exact Rat.le_of_lt (T10_lt (by omega))
theorem T10_lt_iff {p q : Int} : T10 p < T10 q ↔ p < q := by
  constructor
  · intro h
    by_cases z : p < q
    · exact z
    · have := T10_le (show q ≤ p by omega)
      grind
  · exact T10_lt
/-- the power of x -/
def Pow (p : Int) (x : Rat) : Prop := T10 p ≤ absQ x ∧ absQ x < T10 (p + 1)
theorem absQ_mul_pos {x t : Rat} (ht : 0 < t) : absQ (x * t) = absQ x * t := by
  rw [absQ_eq, absQ_eq]
  by_cases h : 0 ≤ x
  · have : 0 ≤ x * t := Rat.mul_nonneg h (Rat.le_of_lt ht)
    rw [if_pos this, if_pos h]
  · have h' : 0 < -x := by grind
    have : 0 < -x * t := Rat.mul_pos h' ht
    rw [if_neg (by grind), if_neg h]
    grind
theorem absQ_neg (x : Rat) : absQ (-x) = absQ x := by
  rw [absQ_eq, absQ_eq]
  split <;> split <;> grind
theorem absQ_nn (x : Rat) : 0 ≤ absQ x := by
  rw [absQ_eq]; split <;> grind
theorem Pow.mul {p k : Int} {x : Rat} (h : Pow p x) : Pow (p + k) (x * T10 k) := by
  have hk := T10_pos k
  unfold Pow at h ⊢
  rw [absQ_mul_pos hk, show p + k + 1 = (p + 1) + k by omega, T10_add, T10_add]
  exact ⟨Rat.mul_le_mul_of_nonneg_right h.1 (Rat.le_of_lt hk), Rat.mul_lt_mul_of_pos_right h.2 hk⟩
theorem Pow.neg {p : Int} {x : Rat} (h : Pow p x) : Pow p (-x) := by
  unfold Pow at h ⊢
  rw [absQ_neg]
  exact h
theorem Pow.ne {p : Int} {x : Rat} (h : Pow p x) : x ≠ 0 := by
  intro e
  have := h.1
  have := T10_pos p
  rw [e, absQ_eq, if_pos (by decide +kernel)] at *
  grind
theorem pow10_lt (n : Nat) : (10 ^ n : Int).natAbs < 2 ^ (4 * n + 1) := by
  rw [Int.natAbs_pow]
  have : (10 : Nat) ^ n ≤ (2 ^ 4) ^ n := Nat.pow_le_pow_left (by decide) n
  rw [← Nat.pow_mul] at this
  have h2 : 2 ^ (4 * n) < 2 ^ (4 * n + 1) := Nat.pow_lt_pow_right (by decide) (by omega)
  exact Nat.lt_of_le_of_lt this h2
theorem T10_bd {p : Int} {k : Nat} (h : p.natAbs ≤ k) : Bd (4 * k + 1) (T10 p) := by
  have b := Nat.lt_of_lt_of_le (pow10_lt p.natAbs) (Nat.pow_le_pow_right (by decide : 0 < 2) (show 4 * p.natAbs + 1 ≤ 4 * k + 1 by omega))
  by_cases z : 0 ≤ p
  · have e : p = (p.natAbs : Int) := by omega
    rw [e, T10_nat]
    exact Bd.int b (by omega)
  · have e : p = -(p.natAbs : Int) := by omega
    rw [e, T10_neg, T10_nat]
    have e2 : 1 / (((10 ^ p.natAbs : Int)) : Rat) = Rat.divInt 1 (10 ^ p.natAbs : Int) := by rw [Rat.divInt_eq_div]; rfl
    rw [e2]
    exact Bd.of (Int.pow_ne_zero (by decide)) (Nat.lt_of_lt_of_le (by decide : Int.natAbs 1 < 2 ^ 1) (Nat.pow_le_pow_right (by decide) (by omega))) b
/-! ### to so many figures -/
def figQ (r : Way) (c p : Int) (x : Rat) : Rat := T10 (p - c + 1) * (takenQ r (x / T10 (p - c + 1)) : Rat)
theorem fig_stay {r : Way} {c p m : Int} {x : Rat} (h : x / T10 (p - c + 1) = (m : Rat)) : figQ r c p x = x := by
  have := T10_ne (p - c + 1)
  unfold figQ
  rw [h, taken_int, ← h]
  grind
theorem fig_mul {r : Way} {c p k : Int} {x : Rat} : figQ r c (p + k) (x * T10 k) = figQ r c p x * T10 k := by
  have h1 := T10_ne (p - c + 1)
  have h2 := T10_ne k
  unfold figQ
  rw [show p + k - c + 1 = (p - c + 1) + k by omega, T10_add]
  have e : x * T10 k / (T10 (p - c + 1) * T10 k) = x / T10 (p - c + 1) := by grind
  rw [e]
  grind
def turnW : Way → Way
  | .high => .low
  | .low => .high
  | r => r
theorem floor_of {n : Rat} {l : Int} (h1 : (l : Rat) ≤ n) (h2 : n < (l : Rat) + 1) : n.floor = l := by
  have a : l ≤ n.floor := Rat.le_floor_iff.mpr h1
  have b : n.floor < l + 1 := Rat.floor_lt_iff.mpr (by rw [Rat.intCast_add]; exact h2)
  omega
theorem nearerB_neg {p : Rat} {a : Bool} : nearerB (1 - p) (!a) = !nearerB p a := by
  by_cases h : p < 1 / 2
  · rw [nearerB_lo h, nearerB_hi (by grind)]; rfl
  · by_cases h2 : p = 1 / 2
    · have e : 1 - p = 1 / 2 := by grind
      rw [e, h2, nearerB_mid, nearerB_mid]
    · rw [nearerB_lo (p := 1 - p) (by grind), nearerB_hi (p := p) (by grind)]; rfl
theorem taken_neg (r : Way) (u : Rat) : takenQ (turnW r) (-u) = -takenQ r u := by
  by_cases h : u = (u.floor : Rat)
  · rw [h, ← Rat.intCast_neg, taken_int, taken_int]
  · have a := Rat.floor_le u
    have b := Rat.lt_floor_add_one u
    rw [Rat.intCast_add] at b
    have e1 : u = (u.floor : Rat) + (u - (u.floor : Rat)) := by grind
    have e2 : -u = (((-u.floor - 1 : Int)) : Rat) + (1 - (u - (u.floor : Rat))) := by rw [Rat.intCast_sub, Rat.intCast_neg]; grind
    generalize u.floor = l at *
    rw [e2, taken_add (by grind) (by grind)]
    have t : takenQ r u = if ruleB r l (u - l) = true then l + 1 else l := by
      conv => lhs; rw [e1]
      exact taken_add (by grind) (by grind)
    rw [t]
    have key : ruleB (turnW r) (-l - 1) (1 - (u - l)) = !ruleB r l (u - l) := by
      have f1 : decide (0 ≤ -l - 1) = !decide (0 ≤ l) := by
        by_cases z : 0 ≤ l
        · rw [decide_eq_true z, decide_eq_false (by omega)]; rfl
        · rw [decide_eq_false z, decide_eq_true (by omega)]; rfl
      have f2 : decide (-l - 1 < 0) = !decide (l < 0) := by
        by_cases z : l < 0
        · rw [decide_eq_true z, decide_eq_false (by omega)]; rfl
        · rw [decide_eq_false z, decide_eq_true (by omega)]; rfl
      have f3 : decide ((-l - 1) % 2 = 1) = !decide (l % 2 = 1) := by
        by_cases z : l % 2 = 1
        · rw [decide_eq_true z, decide_eq_false (by omega)]; rfl
        · rw [decide_eq_false z, decide_eq_true (by omega)]; rfl
      have f4 : decide ((-l - 1) % 2 = 0) = !decide (l % 2 = 0) := by
        by_cases z : l % 2 = 0
        · rw [decide_eq_true z, decide_eq_false (by omega)]; rfl
        · rw [decide_eq_false z, decide_eq_true (by omega)]; rfl
      cases r <;> simp only [turnW, ruleB, f1, f2, f3, f4, nearerB_neg, Bool.not_true, Bool.not_false]
    rw [key]
    cases ruleB r l (u - l) with
    | true =>
      rw [if_neg (by simp), if_pos rfl]
      omega
    | false =>
      rw [if_pos (by simp), if_neg (by simp)]
      omega
theorem fig_neg {r : Way} {c p : Int} {x : Rat} : figQ (turnW r) c p (-x) = -figQ r c p x := by
  unfold figQ
  have e : -x / T10 (p - c + 1) = -(x / T10 (p - c + 1)) := by have := T10_ne (p - c + 1); grind
  rw [e, taken_neg, Rat.intCast_neg]
  grind
end My

namespace My
/-! ### rounding by all ways -/
theorem taken_between (r : Way) (u : Rat) : u.floor ≤ takenQ r u ∧ takenQ r u ≤ highQ u := by
  unfold takenQ highQ
  by_cases z : (partQ u).num = 0
  · rw [if_pos z, if_pos z]; omega
  · rw [if_neg z, if_neg z]; split <;> omega
theorem part_range (u : Rat) : 0 ≤ partQ u ∧ partQ u < 1 := by
  unfold partQ
  have a := Rat.floor_le (a := u)
  have b := Rat.lt_floor_add_one (a := u)
  constructor <;> grind
theorem near_mono {p q : Rat} {a : Bool} (h : p ≤ q) (n : nearerB p a = true) : nearerB q a = true := by
  by_cases z : 1 / 2 < q
  · exact nearerB_hi z
  · by_cases y : p < 1 / 2
    · rw [nearerB_lo y] at n
      cases n
    · have e : p = q := by grind
      rw [← e]; exact n
theorem rule_mono {r : Way} {l : Int} {p q : Rat} (h : p ≤ q) (n : ruleB r l p = true) : ruleB r l q = true := by
  cases r with
  | up => exact n
  | down => exact n
  | high => exact n
  | low => exact n
  | hup => exact near_mono h n
  | hdown => exact near_mono h n
  | heven => exact near_mono h n
  | hodd => exact near_mono h n
theorem taken_mono (r : Way) {u v : Rat} (h : u ≤ v) : takenQ r u ≤ takenQ r v := by
  have fu := Rat.floor_le (a := u)
  have fl : u.floor ≤ v.floor := Rat.le_floor_iff.mpr (by grind)
  have bu := taken_between r u
  have bv := taken_between r v
  by_cases z : u.floor = v.floor
  · have pq : partQ u ≤ partQ v := by unfold partQ; rw [z]; grind
    by_cases pz : (partQ u).num = 0
    · have : takenQ r u = u.floor := by unfold takenQ; rw [if_pos pz]
      omega
    · by_cases k : ruleB r u.floor (partQ u) = true
      · have k2 := rule_mono pq k
        rw [z] at k2
        have p0 := part_range u
        have pv : ¬ (partQ v).num = 0 := fun e => by
          have e' := Rat.num_eq_zero.mp e
          have : partQ u = 0 := by grind
          exact pz (by rw [this]; rfl)
        have e1 : takenQ r v = v.floor + 1 := by unfold takenQ; rw [if_neg pv, if_pos k2]
        have e2 : takenQ r u = u.floor + 1 := by unfold takenQ; rw [if_neg pz, if_pos k]
        omega
      · have : takenQ r u = u.floor := by unfold takenQ; rw [if_neg pz, if_neg k]
        omega
  · have : highQ u ≤ u.floor + 1 := by unfold highQ; split <;> omega
    omega
theorem div_mono {x x' y : Rat} (y0 : 0 < y) (h : x ≤ x') : x / y ≤ x' / y := by
  rw [Rat.div_def, Rat.div_def]
  exact Rat.mul_le_mul_of_nonneg_right h (Rat.le_of_lt (Rat.inv_pos.mpr y0))
theorem mul_mono {y : Rat} (y0 : 0 < y) {i j : Int} (h : i ≤ j) : y * (i : Rat) ≤ y * (j : Rat) := Rat.mul_le_mul_of_nonneg_left (Rat.intCast_le_intCast.mpr h) (Rat.le_of_lt y0)
theorem mul_div_self' {x y : Rat} (y0 : 0 < y) : y * (x / y) = x := by
  have : y ≠ 0 := by grind
  rw [Rat.div_def]; grind
/-- the half ways come within half a step -/
theorem half_within {r : Way} (h : isHalf r = true) {x y : Rat} (y0 : 0 < y) : ¬ y < absQ (x - y * (takenQ r (x / y) : Rat)) * 2 := by
  have e := mul_div_self' (x := x) y0
  generalize hu : x / y = u at *
  have b : -(1 / 2) ≤ u - (takenQ r u : Rat) ∧ u - (takenQ r u : Rat) ≤ 1 / 2 := by
    rcases near_or_mid u with ⟨t, h1, h2⟩ | ⟨l, hl⟩
    · rw [taken_near h h1 h2]
      constructor <;> grind
    · rw [hl, taken_mid h]
      split
      · rw [Rat.intCast_add]
        have e1 : ((1 : Int) : Rat) = 1 := rfl
        rw [e1]
        constructor <;> grind
      · constructor <;> grind
  have b1 := Rat.mul_le_mul_of_nonneg_left b.1 (Rat.le_of_lt y0)
  have b2 := Rat.mul_le_mul_of_nonneg_left b.2 (Rat.le_of_lt y0)
  have e2 : x - y * (takenQ r u : Rat) = y * (u - (takenQ r u : Rat)) := by rw [← e]; grind
  rw [e2, absQ_eq]
  split <;> grind
theorem neg_round (r : Way) {x y : Rat} : y * (takenQ (turnW r) ((0 - x) / y) : Rat) = 0 - y * (takenQ r (x / y) : Rat) := by
  have e : (0 - x) / y = -(x / y) := by rw [Rat.div_def, Rat.div_def]; grind
  rw [e, taken_neg, Rat.intCast_neg]
  grind
theorem scale_round (r : Way) {x y k : Rat} (k0 : k ≠ 0) (y0 : y ≠ 0) : y * k * (takenQ r (x * k / (y * k)) : Rat) = y * (takenQ r (x / y) : Rat) * k := by
  have e : x * k / (y * k) = x / y := by grind
  rw [e]
  grind
/-- the ways that look at nought -/
def isZ : Way → Bool
  | .up => true | .down => true | .hup => true | .hdown => true
  | _ => false
theorem rule_shiftZ {r : Way} (h : isZ r = false) (l : Int) {j : Int} (p : Rat) (h2 : j % 2 = 0) : ruleB r (l + j) p = ruleB r l p := by
  have e1 : (l + j) % 2 = l % 2 := by omega
  cases r with
  | up => cases h
  | down => cases h
  | hup => cases h
  | hdown => cases h
  | high => rfl
  | low => rfl
  | heven => show nearerB p (decide ((l + j) % 2 = 1)) = nearerB p (decide (l % 2 = 1)); rw [e1]
  | hodd => show nearerB p (decide ((l + j) % 2 = 0)) = nearerB p (decide (l % 2 = 0)); rw [e1]
theorem taken_shiftZ {r : Way} (h : isZ r = false) (u : Rat) {j : Int} (h2 : j % 2 = 0) : takenQ r (u + (j : Rat)) = takenQ r u + j := by
  unfold takenQ
  rw [floor_shift, part_shift, rule_shiftZ h _ _ h2]
  split
  · rfl
  · split <;> omega
theorem shift_round (r : Way) {x y : Rat} (y0 : 0 < y) {j : Int} (j0 : 0 ≤ j) (h2 : j % 2 = 0) (h : isZ r = true → 0 ≤ x) : y * (takenQ r ((x + y * (j : Rat)) / y) : Rat) = y * (takenQ r (x / y) : Rat) + y * (j : Rat) := by
  have e : (x + y * (j : Rat)) / y = x / y + (j : Rat) := by
    have : y ≠ 0 := by grind
    grind
  rw [e]
  have t : takenQ r (x / y + (j : Rat)) = takenQ r (x / y) + j := by
    cases z : isZ r with
    | false => exact taken_shiftZ z _ h2
    | true =>
      have x0 := h z
      refine taken_shift r ?_ j0 h2
      rw [Rat.div_def]
      have := Rat.mul_le_mul_of_nonneg_right x0 (Rat.le_of_lt (Rat.inv_pos.mpr y0))
      grind
  rw [t, Rat.intCast_add]
  grind
end My

namespace My
/-! ### what is due, told by whole numbers -/
theorem taken_of {r : Way} {i p0 p1 : Int} (h0 : 0 < p0) (h1 : p0 < p1) : takenQ r ((i : Rat) + Rat.divInt p0 p1) = if ruleB r i (Rat.divInt p0 p1) = true then i + 1 else i := by
  have a : (0 : Rat) < (p0 : Rat) := Rat.intCast_pos.mpr h0
  have b : (p0 : Rat) < (p1 : Rat) := Rat.intCast_lt_intCast.mpr h1
  have q : (0 : Rat) < (p1 : Rat) := by grind
  refine taken_add ?_ ?_
  · rw [Rat.divInt_eq_div]
    exact (Rat.lt_div_iff q).mpr (by grind)
  · rw [Rat.divInt_eq_div]
    exact (Rat.div_lt_iff q).mpr (by grind)
theorem nearer_div {p0 p1 : Int} (h0 : 0 < p0) (h1 : p0 < p1) (a : Bool) : nearerB (Rat.divInt p0 p1) a = if 2 * p0 = p1 then a else decide (p1 < 2 * p0) := by
  have q : (0 : Rat) < (p1 : Rat) := Rat.intCast_pos.mpr (by omega)
  have e2 : ((2 * p0 : Int) : Rat) = 2 * (p0 : Rat) := by rw [Rat.intCast_mul]; rfl
  rw [Rat.divInt_eq_div]
  by_cases z : 2 * p0 = p1
  · have p2 : (p1 : Rat) = 2 * (p0 : Rat) := by rw [← z]; exact e2
    have : (p0 : Rat) / (p1 : Rat) = 1 / 2 := by rw [p2]; rw [p2] at q; grind
    rw [if_pos z, this, nearerB_mid]
  · rw [if_neg z]
    by_cases y : p1 < 2 * p0
    · have : (p1 : Rat) < 2 * (p0 : Rat) := by rw [← e2]; exact Rat.intCast_lt_intCast.mpr y
      rw [decide_eq_true y, nearerB_hi ((Rat.lt_div_iff q).mpr (by grind))]
    · have : 2 * (p0 : Rat) < (p1 : Rat) := by rw [← e2]; exact Rat.intCast_lt_intCast.mpr (by omega)
      rw [decide_eq_false y, nearerB_lo ((Rat.div_lt_iff q).mpr (by grind))]
/-- the number of steps, as a whole and a part of one -/
theorem steps_split {t b c d : Int} (hb : 0 < b) (hc : 0 < c) (hd : 0 < d) : Rat.divInt t b / Rat.divInt c d = ((t * d / (b * c) : Int) : Rat) + Rat.divInt (t * d - t * d / (b * c) * (b * c)) (b * c) := by
  have hb' : (b : Rat) ≠ 0 := by simp; omega
  have hc' : (c : Rat) ≠ 0 := by simp; omega
  have hd' : (d : Rat) ≠ 0 := by simp; omega
  have e1 : Rat.divInt t b / Rat.divInt c d = ((t * d : Int) : Rat) / ((b * c : Int) : Rat) := by
    rw [Rat.divInt_eq_div, Rat.divInt_eq_div, Rat.intCast_mul, Rat.intCast_mul]
    grind
  have hB : ((b * c : Int) : Rat) ≠ 0 := by rw [Rat.intCast_mul]; grind
  rw [e1, Rat.divInt_eq_div, Rat.intCast_sub, Rat.intCast_mul (t * d / (b * c))]
  generalize ((t * d : Int) : Rat) = x at *
  generalize ((b * c : Int) : Rat) = y at *
  generalize ((t * d / (b * c) : Int) : Rat) = z at *
  grind
end My

/-! ### isinstance of a def -/
namespace PySem
open Sem (wp)
namespace F
theorem my_slot_function_ga : Slot "function" "__getattribute__" "object.__getattribute__" :=
  .of (owner := "object") (n := "__getattribute__") (by rw [typeLookup_type, builtinLookup_eq_fast]; kernel_rfl) (by decide +kernel) (by decide +kernel) (by decide +kernel)
    (by first | exact .inl (by decide +kernel) | exact .inr (by decide +kernel)) (by rw [isSubtype_type]; kernel_rfl)
theorem my_lk_function_class : typeLookup (.type "function") "__class__" = pure (some (.builtin "object.__class__")) := by rw [typeLookup_type, builtinLookup_eq_fast]; kernel_rfl
theorem my_sub_function_owner : isSubtype (.type "function") (.type (".".intercalate ("object.__class__".cutAt '.').dropLast)) = pure true := by
  rw [owner_object_class, isSubtype_type]; kernel_rfl
end F
section
variable {prog : Program} {w : World} {A : Around} {E : Value → Shared → Prop} {h : Heap} {g : Array GenState} {d : Drawn} {t : Nat} {os : OsState} {a : Addr} {o : Obj}
theorem my_class_get_fun {R : Result → Shared → Prop} (hx : h.get? a = some o) (hc : o.cls = .type "function") (hq : R (.ok (.ret (.type "function"))) ⟨h, g, d, t, os⟩) :
    codeAny (model prog w) A (.call (.builtin "getset_descriptor.__get__") ⟨[.builtin "object.__class__", .ref a, .type "function"], []⟩) R ⟨h, g, d, t, os⟩ := by
  have hT : (⟨h, g, d, t, os⟩ : Shared).TypeIs (.ref a) "function" := ⟨_, hx, hc⟩
  have hT5 : (⟨h, g, d, t, os⟩ : Shared).TypeIs (.builtin "object.__class__") "getset_descriptor" := F.typeOf_object_class
  have f8 := F.my_sub_function_owner
  refine codeAny_call_builtin F.slot_gs_get.plain F.entry_gs_get (F.slot_gs_get.check _ _ _ _ _ _ _ _ hT5 (F.args_gs_get _ _ _) ?_)
  repeat (any_goals (first | assumption | wp_step))
  refine ⟨Code.quiet_builtin _ (by decide +kernel), codeAny_builtin F.entry_object_class ?_⟩
  repeat (any_goals (first | assumption | wp_step))
theorem my_class_entry_fun {tk : Tok} {Q : Fin → Shared → Prop} (hx : h.get? a = some o) (hc : o.cls = .type "function") (hq : Q (.done (.ret (.type "function"))) ⟨h, g, d, t, os⟩) :
    wpAny (model prog w) A (Builtin.«object.__getattribute__» ⟨[.ref a, .str "__class__" tk], []⟩) Q E ⟨h, g, d, t, os⟩ := by
  have hT : (⟨h, g, d, t, os⟩ : Shared).TypeIs (.ref a) "function" := ⟨_, hx, hc⟩
  have hT5 : (⟨h, g, d, t, os⟩ : Shared).TypeIs (.builtin "object.__class__") "getset_descriptor" := F.typeOf_object_class
  have f4 := F.my_lk_function_class
  have f5 := F.typeOf_object_class
  have f6 := F.slot_gs_get.lookup
  have f7 := F.slot_gs_set.lookup
  repeat (any_goals (first | assumption | wp_step))
  refine my_class_get_fun hx hc ?_
  repeat (any_goals (first | assumption | wp_step))
theorem my_class_call_fun {tk : Tok} {R : Result → Shared → Prop} (hx : h.get? a = some o) (hc : o.cls = .type "function") (hq : R (.ok (.ret (.type "function"))) ⟨h, g, d, t, os⟩) :
    codeAny (model prog w) A (.call (.builtin "object.__getattribute__") ⟨[.ref a, .str "__class__" tk], []⟩) R ⟨h, g, d, t, os⟩ :=
  codeAny_call_builtin F.my_slot_function_ga.plain F.entry_object_getattribute (F.my_slot_function_ga.check _ _ _ _ _ _ _ _ (show (⟨h, g, d, t, os⟩ : Shared).TypeIs (.ref a) "function" from ⟨_, hx, hc⟩) (F.args_object_getattribute_2 _ _) (my_class_entry_fun hx hc hq))
theorem my_class_by_fun {tk : Tok} {Q : Value → Shared → Prop} (hx : h.get? a = some o) (hc : o.cls = .type "function") (hq : Q (.type "function") ⟨h, g, d, t, os⟩) : wpAny (model prog w) A (getAttrBy (.ref a) (.str "__class__" tk) false) Q E ⟨h, g, d, t, os⟩ := by
  have hT : (⟨h, g, d, t, os⟩ : Shared).TypeIs (.ref a) "function" := ⟨_, hx, hc⟩
  have f2 := F.my_slot_function_ga.lookup
  have f3 := F.my_slot_function_ga.bind (.ref a)
  repeat (any_goals (first | assumption | wp_step))
  refine my_class_call_fun hx hc ?_
  repeat (any_goals (first | assumption | wp_step))
theorem my_class_attr_fun {Q : Option Value → Shared → Prop} (hx : h.get? a = some o) (hc : o.cls = .type "function") (hq : Q (some (.type "function")) ⟨h, g, d, t + 1, os⟩) : wpAny (model prog w) A (getAttr? (.ref a) "__class__") Q E ⟨h, g, d, t, os⟩ := by
  unfold getAttr? getAttrBy?
  repeat (any_goals (first | assumption | with_reducible apply my_class_by_fun hx hc | wp_step))
end
end PySem
namespace PySem.W
theorem my_kitx_fun {K : Frag} {a : Addr} : KitX K (.ref a) (.type "function") (KitAt a "function") := kitx_of kitAt_ty (fun {_ _ _ _ _ s} p k => by obtain ⟨h, g, d, t, os⟩ := s; obtain ⟨o, h1, h2⟩ := p; exact my_class_attr_fun h1 h2 k)
end PySem.W

namespace My
open PySem L2
/-- isinstance of a def of the module's top -/
def rIsiF (K : PySem.W.Frag) : List V → Hp → VK → Prop := fun xs H Q => ∃ (a : Addr) (o : Obj) (n : String) (b : Bool), xs = [.ref a, .ty n] ∧ K.lookup a = some o ∧ o.cls = .type "function" ∧ PySem.W.kitOne K (.type "function") (.type n) = some b ∧ Q (.bl b) H
theorem call_isiF {X : Cx} : CallR X (.builtin "isinstance") (rIsiF X.K) := by
  intro pins s σ H xs us Q I r h
  obtain ⟨a, o, n, b, rfl, hl, hc, e, q⟩ := h
  obtain ⟨u1, u2, rfl, r1, r2⟩ := vals2 r
  have e2 := (ClsV.ty n).eq r2
  subst e2
  cases (show u1 = Value.ref a from r1)
  exact PySem.W.kia_one PySem.W.my_kitx_fun I.kIn ⟨o, I.kIn _ _ hl, hc⟩ e (fun z => nomatch z) fun tk => ⟨.bl b, H, I.tok tk, rfl, q⟩
theorem fun_str {K : PySem.W.Frag} {H : Hp} {a : Addr} {Q : VK} (h : ∃ o, K.lookup a = some o ∧ o.cls = .type "function") (q : Q (.bl false) H) : rIsiF K [.ref a, .ty "str"] H Q :=
  let ⟨o, h1, h2⟩ := h
  ⟨a, o, "str", false, rfl, h1, h2, kit_ty (by decide +kernel), q⟩
end My

namespace My
open PySem L2
/-! ### == and != of two objects of an own class with an own == -/
section
variable {X : Cx} {C f : Addr} {fd : FuncData} {ps : List Str} {n : Nat} {sp : Sp}
/-- the own == as it runs, within X or one builtin deeper -/
theorem run_eq {A : Around} {pins : List (Addr × Obj)} {σ : L2.St} {H : Hp} {s : Shared} {a b : Addr} {Q : VK} {E : XK} (F : FnOk X.prog X.w X.K X.mg X.base CX0 n f fd ps sp) (hb : Binds X.K fd ps []) (hr : Room n A) (hfr : A.frames = X.A.frames)
    (I : Inv X pins σ H s) (h : sp [.ref a, .ref b] H Q E) : wpAny (model X.prog X.w) A (call (.ref f) [.ref a, .ref b]) (EP X pins σ Q) X.xe s := by
  have w0 := I.env0
  have w1 : Env0 X.prog X.w X.K X.mg X.base A X.stack s H := ⟨hfr.trans w0.frames, w0.mod, w0.bs, w0.bsz, w0.funs, w0.frf, w0.hok, w0.bare⟩
  have len2 : 2 = ps.length := F.len _ _ _ _ h
  have bnd : BindsTo s fd ⟨[.ref a, .ref b], []⟩ (ps.zip [.ref a, .ref b]) := by
    have q := hb s [.ref a, .ref b] I.kIn (by simpa using len2)
    simpa using q
  refine wpAny_call (codeAny_mono (F.run A X.stack s H ⟨[.ref a, .ref b], []⟩ [.ref a, .ref b] [.ref a, .ref b] Q E hr w1 bnd (.cons rfl (.cons rfl .nil)) h) ?_)
  intro r s' z
  match r, z with
  | .error _, z => exact z.elim
  | .ok (.ret u), z => exact I.after z
/-- a == b -/
def rEqOwn (C : Addr) (sp : Sp) : R2 := fun x y H Q => ∃ (a b dx dy : Addr) (fs gs : List (Str × V)), x = .ref a ∧ y = .ref b ∧ H a = some (.ins C dx fs) ∧ H b = some (.ins C dy gs) ∧ sp [.ref a, .ref b] H (fun v H' => ∃ k, v = .bl k ∧ Q (.bl k) H') E0
theorem op_eqOwn (F : FnOk X.prog X.w X.K X.mg X.base CX0 n f fd ps sp) (hs : PySem.W.findIn X.K (.ref C) "__eq__" = some (some (.ref f))) (hf : PySem.W.isFn X.K (.ref f) = true) (hb : Binds X.K fd ps []) (hr : Room n X.A) :
    OpR X (compareOp .Eq) (rEqOwn C sp) := by
  rintro pins s σ H x y v u Q I rx ry ⟨a, b, dx, dy, fs, gs, rfl, rfl, ha, hb', q⟩
  cases rx
  cases ry
  obtain ⟨_, J1, _⟩ := ins_get I.hok ha
  obtain ⟨_, J2, _⟩ := ins_get I.hok hb'
  obtain ⟨_, K1, _⟩ := J1.look
  obtain ⟨_, K2, _⟩ := J2.look
  obtain ⟨_, fr⟩ := I.fr
  show wpAny (model X.prog X.w) X.A (richCompare .Eq (.ref a) (.ref b)) _ _ s
  refine PySem.W.cmp_K (op := .Eq) (tb := .ref C) hr.units0 fr I.ok.mod.kin K1 K2.type (by simp [PySem.W.notFirst]) hs hf ?_
  refine thn (run_eq F hb hr rfl I q) ?_
  rintro w s' ⟨z, H', I', rz, k, rfl, qk⟩
  cases rz
  exact ⟨.bl k, H', I', rfl, qk⟩
/-- a != b, no own != -/
def rNeOwn (C : Addr) (sp : Sp) : R2 := fun x y H Q => ∃ (a b dx dy : Addr) (fs gs : List (Str × V)), x = .ref a ∧ y = .ref b ∧ H a = some (.ins C dx fs) ∧ H b = some (.ins C dy gs) ∧ sp [.ref a, .ref b] H (fun v H' => ∃ k, v = .bl k ∧ Q (.bl (!k)) H') E0
theorem ne_run {P : Program} {w : World} {A : Around} {R : Fin → Shared → Prop} {E : Value → Shared → Prop} {K : PySem.W.Frag} {s : Shared} {a b C f : Addr} {ox : Obj} {od : Option Obj} (hu : A.units < cLine) (X : K.In s.heap) (I : PySem.W.InstAt s.heap a ox C od)
    (hs : PySem.W.findIn K (.ref C) "__eq__" = some (some (.ref f))) (hf : PySem.W.isFn K (.ref f) = true) (h : wpAny (model P w) A (call (.ref f) [.ref a, .ref b]) (fun v s' => ∃ k, v = .bool k ∧ R (.done (.ret (.bool (!k)))) s') E s) :
    wpAny (model P w) A (Builtin.«object.__ne__» ⟨[.ref a, .ref b], []⟩) R E s := by
  have e : Builtin.«object.__ne__» ⟨[.ref a, .ref b], []⟩ = (do
      cRoomFor "comparison" [.ref a, .ref b]
      let r ← callSpecialIfBound? (.ref a) "__eq__" [.ref b]
      match r with
      | some .notImplemented | none => PySem.ret .notImplemented
      | some r => PySem.ret (.bool (!(← truthy r)))) := by rfl
  rw [e]
  refine wpAny_bind (wpAny_cRoomFor hu ?_)
  refine wpAny_bind (PySem.W.ifBound_K X I hs hf (wpAny_mono h ?_ fun _ _ z => z))
  rintro v s' ⟨k, rfl, q⟩
  exact wpAny_bind (wpAny_truthy_bool (wpAny_pure q))
theorem op_neOwn (F : FnOk X.prog X.w X.K X.mg X.base CX0 n f fd ps sp) (hs : PySem.W.findIn X.K (.ref C) "__eq__" = some (some (.ref f))) (hf : PySem.W.isFn X.K (.ref f) = true) (hb : Binds X.K fd ps [])
    (hn : PySem.W.findIn X.K (.ref C) "__ne__" = some (some (.builtin "object.__ne__"))) (hm : PySem.W.mroIn X.K C (.type "object") = some true) (hr : Room (n + 1) X.A) :
    OpR X (compareOp .NotEq) (rNeOwn C sp) := by
  rintro pins s σ H x y v u Q I rx ry ⟨a, b, dx, dy, fs, gs, rfl, rfl, ha, hb', q⟩
  cases rx
  cases ry
  obtain ⟨_, J1, _⟩ := ins_get I.hok ha
  obtain ⟨_, J2, _⟩ := ins_get I.hok hb'
  obtain ⟨_, K1, _⟩ := J1.look
  obtain ⟨_, K2, _⟩ := J2.look
  have kin := I.kIn
  have sub : PySem.W.Looks (model X.prog X.w) s.heap (isInstance (.ref a) (.type "object")) true := K1.type.andThen (PySem.W.looks_mroIn kin hm)
  have r1 : Room n X.A.in1 := hr.in1
  have go : wpAny (model X.prog X.w) X.A (call (.builtin "object.__ne__") [.ref a, .ref b]) (fun v s' => v ≠ .notImplemented ∧ EP X pins σ Q v s') X.xe s := by
    refine wpAny_call (codeAny_call_builtin PySem.F.slot_tuple_iterator_ne.plain PySem.F.cmpEntry_ne (PySem.W.check_slot PySem.F.cmpKind_ne PySem.F.cmpSplit_ne sub (PySem.F.cmpArgs_ne _ _) ?_))
    refine ne_run r1.units0 kin K1 hs hf (thn (run_eq F hb r1 rfl I q) ?_)
    rintro w s' ⟨z, H', I', rz, k, rfl, qk⟩
    cases rz
    exact ⟨k, rfl, (fun z => by cases z), .bl (!k), H', I', rfl, qk⟩
  have one : wpAny (model X.prog X.w) X.A (tryCompare (.ref a) "__ne__" (.ref b)) (fun r s' => ∃ v, r = some v ∧ EP X pins σ Q v s') X.xe s := by
    unfold tryCompare
    refine wpAny_bind ?_
    simp only [callSpecialIfBound?, bindSpecialIfBound?]
    have bi : PySem.W.Looks (model X.prog X.w) s.heap (bindSpecial (.builtin "object.__ne__") (.ref a)) (.builtin "object.__ne__", [.ref a]) := PySem.W.Looks.of_pure (PySem.F.slot_tuple_iterator_ne.bind _)
    have last : wpAny (model X.prog X.w) X.A (call (.builtin "object.__ne__") ([.ref a] ++ [.ref b]) >>= fun v => pure (some v)) (fun r s' => wpAny (model X.prog X.w) X.A (match r with | some .notImplemented => pure none | none => pure none | some v => pure (some v)) (fun r s' => ∃ v, r = some v ∧ EP X pins σ Q v s') X.xe s') X.xe s := by
      refine wpAny_bind (thn go ?_)
      rintro v s' ⟨nv, ev⟩
      refine wpAny_pure ?_
      cases v <;> first | exact absurd rfl nv | exact wpAny_pure ⟨_, rfl, ev⟩
    refine wpAny_holding (wpAny_bind (wpAny_bind (wpAny_bind (K1.type.here ((PySem.W.looks_findIn kin hn).here ?_)))))
    refine wpAny_bind (wpAny_askSetting (wpAny_ite ?_))
    split
    · exact wpAny_bind (bi.here (wpAny_pure (by exact last)))
    · exact wpAny_tryCatch (wpAny_bind (bi.here (wpAny_pure (by exact last))))
  show wpAny (model X.prog X.w) X.A (richCompare .NotEq (.ref a) (.ref b)) _ _ s
  unfold richCompare
  simp only [oneThing_ref]
  refine wpAny_holding (wpAny_bind (wpAny_cRoomFor hr.units0 ?_))
  refine wpAny_bind (K1.type.here (wpAny_bind (K2.type.here ?_)))
  have e0 : (Value.ref C != Value.ref C) = false := by simp
  rw [e0]
  simp only [Bool.false_eq_true, if_false]
  refine wpAny_bind (wpAny_pure ?_)
  simp only [Bool.false_eq_true, if_false]
  refine wpAny_bind (wpAny_mono one ?_ fun _ _ z => z)
  rintro r s' ⟨v, rfl, q'⟩
  exact wpAny_pure q'
end
end My

namespace My
open PySem PySem.Spec PyProof.Rows L2
/-! ### in and not in a tuple of objects with an own == -/
section
open PySem.SeqAt
open AutoSeq1 (wpAny_loadPart')
open MeetsSeq MeetsSeq2 MeetsSeq3 SeqRoads2
variable {prog : Program} {w : World} {A : Around} {E : Value → Shared → Prop}
theorem contains_tupG {l : Addr} {items : Array Value} {n : Nat} {dd : Option Addr} {sl : Array (Option Value)} {x : Value} {Q : Bool → Shared → Prop} (I : List Value → Shared → Prop)
    (turn : ∀ y rest s, I (y :: rest) s → wpAny (model prog w) A.in1 (eqBool y x) (fun b s' => if b = true then Q true s' else I rest s') E s) (fin : ∀ s, I [] s → Q false s) {s : Shared}
    (hl : s.heap.get? l = some { cls := .type "tuple", dict := dd, data := .seq items n, slots := sl }) (h : I items.toList s) :
    wpAny (model prog w) A (call (.builtin "tuple.__contains__") [.ref l, x]) (fun v s' => ∃ b, v = .bool b ∧ Q b s') E s := by
  refine GQ.call_here F.slot_tuple_contains ⟨_, hl, rfl⟩ F.entry_tuple_contains (F.args_tuple_contains_2 _ _) ?_
  have h0 := h
  obtain ⟨hp, g, d, tk, os⟩ := s
  wp_walk using wpAny_loadPart' hl, wpAny_forIn_array _ (fun rest b s' => b.1 = none ∧ I rest s') _
  case turn =>
    rintro y rest b s' ⟨hb, hI⟩
    refine wpAny_bind (wpAny_mono (turn y rest s' hI) (fun r s2 q2 => ?_) fun _ _ x => x)
    cases r with
    | true =>
      rw [if_pos rfl] at q2
      wp_walk
      exact ⟨_, rfl, q2⟩
    | false =>
      rw [if_neg Bool.false_ne_true] at q2
      wp_walk
      exact ⟨rfl, q2⟩
  case fin =>
    rintro ⟨b1, b2⟩ s' ⟨hb, hI⟩
    simp only at hb
    subst hb
    wp_walk
    exact ⟨_, rfl, fin s' hI⟩
  case h =>
    exact ⟨rfl, h0⟩
end
section
variable {X : Cx} {C f : Addr} {fd : FuncData} {ps : List Str} {n : Nat} {sp : Sp}
def rInOwn (neg : Bool) (C : Addr) (sp : Sp) : R2 := fun x y H Q => ∃ (b db t : Addr) (gs : List (Str × V)) (as : List Addr) (e : Addr → Bool), x = .ref b ∧ y = .ref t ∧ H b = some (.ins C db gs) ∧ H t = some (.tup (as.map V.ref)) ∧
  (∀ a ∈ as, (∃ da fs, H a = some (.ins C da fs)) ∧ sp [.ref a, .ref b] H (fun v H' => v = .bl (e a) ∧ H' = H) E0) ∧ (b ∈ as → e b = true) ∧ Q (.bl (if neg = true then !as.any e else as.any e)) H
theorem in_own_core (F : FnOk X.prog X.w X.K X.mg X.base CX0 n f fd ps sp) (hs : PySem.W.findIn X.K (.ref C) "__eq__" = some (some (.ref f))) (hf : PySem.W.isFn X.K (.ref f) = true) (hb : Binds X.K fd ps []) (hr : Room (n + 1) X.A)
    {pins : List (Addr × Obj)} {s : Shared} {σ : L2.St} {H : Hp} {b db t : Addr} {gs : List (Str × V)} {as : List Addr} {e : Addr → Bool} {Q : Bool → Shared → Prop} (I : Inv X pins σ H s) (hb' : H b = some (.ins C db gs)) (ht : H t = some (.tup (as.map V.ref)))
    (ha : ∀ a ∈ as, (∃ da fs, H a = some (.ins C da fs)) ∧ sp [.ref a, .ref b] H (fun v H' => v = .bl (e a) ∧ H' = H) E0) (hi : b ∈ as → e b = true) (q : ∀ s', Inv X pins σ H s' → Q (as.any e) s') :
    wpAny (model X.prog X.w) X.A (contains (.ref t) (.ref b)) Q X.xe s := by
  obtain ⟨its, r, pl, hz⟩ := I.tuple (SqT.of ht)
  obtain ⟨⟨cls, dd, data, sl⟩, ho, hc, k, hd⟩ := id pl
  simp only at hc hd
  subst hc hd
  refine wpAny_contains_slot ⟨_, ho, rfl⟩ PySem.F.slot_tuple_contains ?_
  have rs : its = as.map Value.ref := by
    clear ha ht hi q ho hz pl
    generalize hx : as.map V.ref = xs at r
    induction r generalizing as with
    | nil => cases as with
      | nil => rfl
      | cons _ _ => cases hx
    | cons rv _ ih => cases as with
      | nil => cases hx
      | cons a as =>
        rw [List.map_cons] at hx
        injection hx with h1 h2
        subst h1
        cases rv
        rw [List.map_cons, ih h2]
  subst rs
  refine wpAny_mono (contains_tupG (fun rest s' => ∃ cs : List Addr, rest = cs.map Value.ref ∧ (∀ a ∈ cs, a ∈ as) ∧ cs.any e = as.any e ∧ Inv X pins σ H s') (Q := fun v s' => v = as.any e ∧ Inv X pins σ H s') ?_ ?_ ho ⟨as, by simp, fun a h => h, rfl, I⟩) (fun v s' hv => ?_) fun _ _ x => x
  · rintro y rest s' ⟨cs, hcs, hm, he, I'⟩
    cases cs with
    | nil => cases hcs
    | cons a cs =>
      rw [List.map_cons] at hcs
      injection hcs with h1 h2
      subst h1 h2
      rw [List.any_cons] at he
      obtain ⟨⟨da, fs, hA⟩, hsp⟩ := ha a (hm a List.mem_cons_self)
      by_cases hab : a = b
      · subst hab
        have ee := hi (hm a List.mem_cons_self)
        refine SeqAt.EqAt.same (A := X.A.in1) (s := s') (.ref a) X.prog X.w X.xe _ ?_
        rw [if_pos rfl]
        refine ⟨?_, I'⟩
        rw [← he, ee, Bool.true_or]
      · refine GQ.eqBool_refG hab ?_
        obtain ⟨_, J1, _⟩ := ins_get I'.hok hA
        obtain ⟨_, J2, _⟩ := ins_get I'.hok hb'
        obtain ⟨_, K1, _⟩ := J1.look
        obtain ⟨_, K2, _⟩ := J2.look
        obtain ⟨_, fr⟩ := I'.fr
        refine PySem.W.cmp_K (op := .Eq) (tb := .ref C) hr.in1.units0 fr I'.ok.mod.kin K1 K2.type (by simp [PySem.W.notFirst]) hs hf ?_
        refine thn (run_eq F hb hr.in1 rfl I' hsp) ?_
        rintro u s2 ⟨z, H', I2, rz, ez, eH⟩
        subst ez eH
        cases rz
        refine ⟨e a, rfl, ?_⟩
        cases ea : e a with
        | true =>
          rw [if_pos rfl]
          exact ⟨by rw [← he, ea, Bool.true_or], I2⟩
        | false =>
          rw [if_neg Bool.false_ne_true]
          exact ⟨cs, rfl, fun c hc => hm c (List.mem_cons_of_mem _ hc), by rw [← he, ea, Bool.false_or], I2⟩
  · rintro s' ⟨cs, hcs, _, he, I'⟩
    cases cs with
    | nil => exact ⟨he, I'⟩
    | cons a cs => cases hcs
  · obtain ⟨v', rfl, rfl, I'⟩ := hv
    exact wpAny_truthy_bool (q s' I')
theorem op_inOwn (F : FnOk X.prog X.w X.K X.mg X.base CX0 n f fd ps sp) (hs : PySem.W.findIn X.K (.ref C) "__eq__" = some (some (.ref f))) (hf : PySem.W.isFn X.K (.ref f) = true) (hb : Binds X.K fd ps []) (hr : Room (n + 1) X.A) :
    OpR X (compareOp .In) (rInOwn false C sp) := by
  rintro pins s σ H x y v u Q I rx ry ⟨b, db, t, gs, as, e, rfl, rfl, hB, ht, ha, hi, q⟩
  cases rx
  cases ry
  show wpAny _ X.A (do return Value.bool (← contains (.ref t) (.ref b))) _ _ s
  refine wpAny_bind (in_own_core F hs hf hb hr I hB ht ha hi fun s' I' => wpAny_pure ?_)
  exact ⟨.bl (as.any e), H, I', rfl, q⟩
theorem op_notInOwn (F : FnOk X.prog X.w X.K X.mg X.base CX0 n f fd ps sp) (hs : PySem.W.findIn X.K (.ref C) "__eq__" = some (some (.ref f))) (hf : PySem.W.isFn X.K (.ref f) = true) (hb : Binds X.K fd ps []) (hr : Room (n + 1) X.A) :
    OpR X (compareOp .NotIn) (rInOwn true C sp) := by
  rintro pins s σ H x y v u Q I rx ry ⟨b, db, t, gs, as, e, rfl, rfl, hB, ht, ha, hi, q⟩
  cases rx
  cases ry
  show wpAny _ X.A (do return Value.bool (!(← contains (.ref t) (.ref b)))) _ _ s
  refine wpAny_bind (in_own_core F hs hf hb hr I hB ht ha hi fun s' I' => wpAny_pure ?_)
  exact ⟨.bl (!as.any e), H, I', rfl, q⟩
end
end My

namespace My
open PySem PySem.Spec PyProof.Rows L2
/-! ### promises where no repr is under way -/
/-- a promise of the def at f, for surroundings in which nothing is being shown -/
structure FnG (P : Program) (w : World) (K : PySem.W.Frag) (mg : Str → Option Value) (base : Heap) (k : Nat) (f : Addr) (fd : FuncData) (ps : List Str) (sp : Sp) : Prop where
  len : ∀ vs H Q E, sp vs H Q E → vs.length = ps.length
  run : ∀ (A : Around) (outer : List Env) (s : Shared) (H : Hp) (args : Args) (us : List Value) (vs : List V) (Q : VK) (E : XK), A.guards = some [] → Room k A → Env0 P w K mg base A outer s H → BindsTo s fd args (ps.zip us) → Vals vs us → sp vs H Q E →
    codeAny (model P w) A (.call (.ref f) args) (CR CX0 outer P w H s Q E) s
section
variable {P : Program} {w : World} {K : PySem.W.Frag} {mg : Str → Option Value} {base : Heap}
theorem FnG.by_body {x qual : Str} {st : Stmt} {f : Addr} {fd : FuncData} {N ps : List Str} {k : Nat} {sp : Sp} (F : Fun K x qual st f fd) (S : FnScope N ps (defScope st)) (len : ∀ vs H Q E, sp vs H Q E → vs.length = ps.length)
    (body : ∀ (cdv : Value) (A : Around) (outer : List Env) (s : Shared) (H : Hp) (vs : List V) (Q : VK) (E : XK), A.guards = some [] → Room k (A.deeper (envOfC qual (defScope st) s.heap.objs.size f cdv)) → sp vs H Q E →
      ∃ t, PSs (cxOf CX0 P w K mg base N qual (defScope st) f cdv A outer s H E).nox (defBody st) t ∧ t { nx := fun _ H' => Q .non H', rt := Q } (start N vs) H) : FnG P w K mg base (k + 1) f fd ps sp := by
  obtain ⟨_, _, _, _, _, _, cdv, _, _, rfl, look, code⟩ := F.ex
  constructor
  · exact len
  intro A outer s H args us vs Q E hg hr e0 hb rel hsp
  have n := len _ _ _ _ hsp
  have old : ∀ b o, base.get? b = some o → s.heap.get? b = some o := fun b o e => (e0.bs b o e).1
  have inK : K.In s.heap := e0.mod.kin.keeps old
  obtain ⟨t, ht, q⟩ := body cdv A outer s H vs Q E hg (hr.deeper _) hsp
  have named : ∀ y ∈ ps.zip us, (defScope st).names.lookup y.1 = some .local ∨ ((defScope st).names.lookup y.1 = some .cell ∧ ((cellsFrom (s.heap.objs.size + 1) (defScope st).names []).lookup y.1).isSome = true) := by
    rintro ⟨m, v⟩ hy
    exact (S.par m (List.of_mem_zip hy).1).imp (fun z => z) fun z => ⟨z, PySem.W.cellsFrom_some _ _ _ (.inl z)⟩
  refine codeAny_call_function hr.depth (inK _ _ look) rfl S.co S.gen rfl (PySem.W.codeRec_of inK code) (hb _ _ _ _ (wpAny_newFunctionEnv_cells S.kind named fun env he s1 z => ?_))
  subst he
  refine ⟨(e0.mod.nolimit.keeps old).keeps z.toInCall.keep, codeAny_func (wpAny_mono (ht.nox.run [] s1 (start N vs) H _ (inv_start S hr.hd e0 n rel z) q) ?_ fun _ _ h => h)⟩
  intro fl s' h
  match fl, h with
  | .ret u, ⟨v, σ', H', J, rv, q'⟩ => exact ⟨v, H', J.os, J.bare, J.base, J.hok, rv, q'⟩
  | .next, ⟨σ', H', J, q'⟩ => exact ⟨V.non, H', J.os, J.bare, J.base, J.hok, rfl, q'⟩
  | .brk, ⟨_, _, _, q'⟩ => exact q'.elim
  | .cont, ⟨_, _, _, q'⟩ => exact q'.elim
end
section
variable {X : Cx} {k : Nat} {f : Addr} {fd : FuncData} {ps : List Str} {sp : Sp} {dvs : List V} {ds : List Value} {E : XK} {x : Str} {p pos : Pos} {e : Expr} {es : List Expr} {t : TA}
/-- a call of such a def -/
theorem pe_callG (hA : X.A.guards = some []) (F : FnG X.prog X.w X.K X.mg X.base k f fd ps sp) (hr : Room k X.A) (hg : Gl X x) (hm : X.mg x = some (.ref f)) (hk : PySem.W.keepIn X.K (.ref f) = true) (hb : Binds X.K fd ps ds) (hd : Vals dvs ds) (hx : Passes CX0 X E)
    (ha : PA X (e :: es) t) (hdb : (x == ("__debug__" : Str)) = false := by decide) (he : starEach (e :: es) X.env = (false, eval e X.env) :: starEach es X.env := by rfl) (hpl : (backTo pos (starEach es X.env)).any (·.1) = false := by rfl) :
    PE X (.Call (.Name x p) (e :: es) [] pos) (tCall sp dvs E t) := by
  constructor
  intro pins s σ H Q I h
  refine wpAny_Call_Name_kw (ld_glob I hg hm ?_ hdb)
  refine PySem.W.callWith_K (h₀ := X.base) I.ok.mod.kin hk (thn (ha.run pos pins s σ H _ I h) ?_) he hpl
  rintro us s1 ⟨vs, H1, J, rel, q⟩
  refine ⟨J.kIn, ?_⟩
  have both := rel.append hd
  have n : (us ++ ds).length = ps.length := by rw [← both.length]; exact F.len _ _ _ _ q
  refine wpAny_call (codeAny_mono (F.run X.A X.stack s1 H1 ⟨us, []⟩ (us ++ ds) (vs ++ dvs) Q E hA hr J.env0 (hb s1 us J.kIn n) both q) ?_)
  intro r s' z
  match r, z with
  | .error _, z => exact hx pins σ H1 s1 _ s' J z
  | .ok (.ret _), z => exact J.after z
/-- repr of data -/
def rRepr (K : PySem.W.Frag) : List V → Hp → VK → Prop := fun xs H Q => ∃ (a : Addr) (d : PyData), xs = [.ref a] ∧ Dp K H (.ref a) d ∧ d.showable = true ∧ d.hasDict = false ∧ d.depth ≤ 60 ∧ d.shown.length ≤ sizeLine ∧ Q (.str d.shown) H
theorem call_repr (hA : X.A.guards = some []) (hu : X.A.units + 64 < cLine) : CallR X (.builtin "repr") (rRepr X.K) := by
  rintro pins s σ H xs us Q I r ⟨a, d, rfl, hd, hs, hn, hz, hl, q⟩
  obtain ⟨u, rfl, rx⟩ := vals1 r
  cases rx
  obtain ⟨as, rd⟩ := Dp.reads I d (.ref a) (.ref a) hd rfl
  exact repr_of_reads' rd hs (PyData.noDict_hsm hn) hA (by omega) (fun _ _ e => e) (fun h' u tk hk => ⟨.str d.shown, H, I.kept hk, ⟨_, rfl⟩, q⟩) hl
end
end My
namespace My
open PySem PySem.Spec PyProof.Rows L2
/-! ### the law's call, by such a promise -/
section
variable {P : Program} {w : World} {K : PySem.W.Frag} {mg mb : Str → Option Value} {k : Nat} {fa a : Addr} {fd : FuncData} {x : Str} {sp : Sp} {s₁ : Shared} {vs : List Value} {ns : List Int}
/-- with H tracked: nothing but the script, and not even this where it is the module's own -/
theorem law_with (KX : K.In s₁.heap) (hns : s₁.heap.Ns mainGlobals mg) (hb : s₁.heap.Ns builtinsNs mb) (hbb : ∀ x : Str, x ≠ "__name__" → mb x = bootBuiltins x) (hlim : s₁.heap.NoLimit) (hg : s₁.gens = #[])
    (ha : s₁.heap.get? a = some { cls := .type "list", data := .seq vs.toArray }) (hr : Room k callerA)
    (F : ∀ base : Heap, K.In base → base.Ns mainGlobals mg → FnG P w K mg base k fa fd [x] sp) (hbind : ∀ (s : Shared) (u : Value), BindsTo s fd ⟨[u], []⟩ [(x, u)])
    {H : Hp} (off : ∀ b, b ≠ a → H b = none) (own : K.lookup a ≠ none → H a = none) (frz : ∀ u, H a = some u → ∃ ob xs, u = .frz ob (.lst xs)) (hok : HOk P w H s₁.heap)
    (hsp : sp [.ref a] H (fun v _ => v = .bl true) fun _ _ _ => False) :
    codeAny (model P w) callerA (.call (.ref fa) ⟨[.ref a], []⟩) (fun r s' => r = .ok (.ret (.bool true)) ∧ OldK s₁.heap s'.heap ∧ s'.os = s₁.os ∧ AllBare s'.gens) s₁ := by
  have stays : ∀ {b : Addr} {o : Obj}, s₁.heap.get? b = some o → b ≠ a → (hidT s₁.heap H).get? b = some o := fun e n => hidT_get e (off _ n)
  have dicts : ∀ {b : Addr} {o : Obj} {es : Array DictEntry} {n : Nat}, s₁.heap.get? b = some o → o.data = .dict es n → b ≠ a := by
    rintro b o es n e d rfl
    rw [ha] at e
    cases e
    cases d
  have tables : ∀ {b : Addr} {m : Str → Option Value}, s₁.heap.Ns b m → (hidT s₁.heap H).Ns b m := fun {b m} h => by
    obtain ⟨o, es, n, e, d, r⟩ := h
    exact ⟨o, es, n, stays e (dicts e d), d, r⟩
  have inK : K.In (hidT s₁.heap H) := fun b o e => by
    by_cases z : b = a
    · subst z
      exact hidT_get (KX _ _ e) (own (by rw [e]; simp))
    · exact stays (KX _ _ e) z
  obtain ⟨mc, l1, l2⟩ := hlim
  have e0 : Env0 P w K mg (hidT s₁.heap H) callerA [] s₁ H :=
    ⟨rfl, ⟨inK, tables hns, ⟨mb, tables hb, hbb⟩, mc, tables l1, l2⟩, fun b o e => of_hidT e, Nat.le_of_eq (hidT_size _ _), trivial, fun b hb => absurd (show b ∈ ([] : List Addr) from hb) (by simp), hok, .of_eq hg⟩
  have run := (F _ inK (tables hns)).run callerA [] s₁ H ⟨[.ref a], []⟩ [.ref a] [.ref a] _ _ rfl hr e0 (hbind s₁ (.ref a)) (.cons rfl .nil) hsp
  refine codeAny_mono run ?_
  intro r s' h
  match r, h with
  | .error _, h => exact False.elim h
  | .ok (.ret u), ⟨v, H', os, bare, un, hok', rv, q⟩ =>
    have q' : v = .bl true := q
    subst q'
    obtain rfl : u = Value.bool true := rv
    refine ⟨rfl, OldK.of_keep fun b o e => ?_, os, bare⟩
    cases z : H b with
    | none => exact un.keep b o e z (fun y => absurd (show b ∈ ([] : List Addr) from y) (by simp)) (by simp)
    | some u =>
      have ba : b = a := Classical.byContradiction fun y => by rw [off b y] at z; cases z
      subst ba
      obtain ⟨ob, xs, rfl⟩ := frz u z
      obtain ⟨e1, _⟩ := hok b _ z
      obtain ⟨e2, _⟩ := hok' b _ (un.frzs b ob _ z)
      rw [e] at e1
      cases e1
      exact e2
theorem law_callG (KX : K.In s₁.heap) (hns : s₁.heap.Ns mainGlobals mg) (hb : s₁.heap.Ns builtinsNs mb) (hbb : ∀ x : Str, x ≠ "__name__" → mb x = bootBuiltins x) (hlim : s₁.heap.NoLimit) (hg : s₁.gens = #[])
    (ha : s₁.heap.get? a = some { cls := .type "list", data := .seq vs.toArray }) (hi : IntsAre vs ns) (hl : ns.length ≤ sizeLine) (hr : Room k callerA)
    (F : ∀ base : Heap, K.In base → base.Ns mainGlobals mg → FnG P w K mg base k fa fd [x] sp) (hbind : ∀ (s : Shared) (u : Value), BindsTo s fd ⟨[u], []⟩ [(x, u)])
    (hsp : ∀ H : Hp, SqL K H a (ns.map V.int) → sp [.ref a] H (fun v _ => v = .bl true) fun _ _ _ => False) :
    codeAny (model P w) callerA (.call (.ref fa) ⟨[.ref a], []⟩) (fun r s' => r = .ok (.ret (.bool true)) ∧ OldK s₁.heap s'.heap ∧ s'.os = s₁.os ∧ AllBare s'.gens) s₁ := by
  have rel := vals_ints hi
  by_cases hk : K.lookup a = none
  · let it : HO := .frz { cls := .type "list", data := .seq vs.toArray } (.lst (ns.map V.int))
    have there : upd (fun _ => none) a it a = some it := upd_same
    refine law_with KX hns hb hbb hlim hg ha hr F hbind (H := upd (fun _ => none) a it) (fun b n => upd_ne n) (fun z => absurd hk z) (fun u e => ?_) (fun b u e => ?_) (hsp _ (.inl (.inr ⟨_, there⟩)))
    · rw [there] at e
      cases e
      exact ⟨_, _, rfl⟩
    · by_cases z : b = a
      · subst z
        rw [there] at e
        cases e
        exact ⟨ha, by rw [List.length_map]; exact hl, vs, _, rel, ha⟩
      · rw [upd_ne z] at e
        cases e
  · obtain ⟨o, ho⟩ := Option.ne_none_iff_exists'.mp hk
    have e := KX a o ho
    rw [ha] at e
    cases e
    refine law_with KX hns hb hbb hlim hg ha hr F hbind (H := fun _ => none) (fun b n => rfl) (fun _ => rfl) (fun u e => by cases e) (fun b u e => by cases e) (hsp _ (.inr ⟨_, vs.toArray, _, ho, rfl, rfl, rfl, by rw [List.size_toArray, hi.length]; exact hl, by simpa using rel⟩))
theorem walk_ofG {l : PySem.W.OpenLaw} {n k : Nat} {q : Program} {loose : List Str} {XP : (Str → Option Value) → Heap → Prop} {YP : World → Heap → Prop} {d : DefRec} {K : Params → PySem.W.Frag} {sp : World → Sp} {x : Str}
    (hn : l.most = some n) (hn2 : n ≤ sizeLine) (hdf : d.params.defaults = []) (hr : Room k callerA) (hY : ∀ (w : World) (h : Heap), YP w h → (K w.params).In h)
    (F : ∀ (w : World) (mg : Str → Option Value) (fa : Addr) (h : Heap), (K w.params).In h → h.Ns mainGlobals mg → mg d.name = some (.ref fa) →
      ∃ fd : FuncData, (∀ (s : Shared) (u : Value), BindsTo s fd ⟨[u], []⟩ [(x, u)]) ∧ ∀ base : Heap, (K w.params).In base → base.Ns mainGlobals mg → FnG l.prog w (K w.params) mg base k fa fd [x] (sp w))
    (hsp : ∀ (w : World) (H : Hp) (a : Addr) (ns : List Int), ns.length ≤ n → SqL (K w.params) H a (ns.map V.int) → sp w [.ref a] H (fun v _ => v = .bl true) fun _ _ _ => False) :
    PySem.W.WalkO q loose XP YP l.row.toRowW d [] (fun f vs => PySem.call f vs) := by
  refine Att.attach_call hn hdf fun w s₀ s₁ mg mb fa o pm cd doc a vs ns G Y ho hd hcd hmg hobj hints hlen hg => ?_
  have KX := hY w _ Y
  obtain ⟨fd, hb, hF⟩ := F w mg fa _ KX G.T.g hmg
  exact law_callG KX G.T.g G.T.b G.T.builtins G.T.nolimit hg hobj hints (Nat.le_trans hlen hn2) hr hF hb fun H hS => hsp w H a ns hlen hS
end
end My

namespace My
open PySem PySem.Spec PyProof.Rows L2
section
variable {X : Cx}
/-- repr of data, whatever its kind -/
def rReprA (K : PySem.W.Frag) : List V → Hp → VK → Prop := fun xs H Q => ∃ (x : V) (d : PyData), xs = [x] ∧ Dp K H x d ∧ d.showable = true ∧ d.hasDict = false ∧ d.depth ≤ 60 ∧ d.shown.length ≤ sizeLine ∧ Q (.str d.shown) H
theorem call_reprA (hA : X.A.guards = some []) (hu : X.A.units + 64 < cLine) : CallR X (.builtin "repr") (rReprA X.K) := by
  rintro pins s σ H xs us Q I r ⟨x, d, rfl, hd, hs, hn, hz, hl, q⟩
  obtain ⟨u, rfl, rx⟩ := vals1 r
  cases hd with
  | non =>
    cases rx
    exact PySem.P.repr_of_none ⟨.str _, H, I.tok _, ⟨_, rfl⟩, q⟩
  | bl b =>
    obtain ⟨t, rfl⟩ := rx
    exact PySem.P.repr_of_bool ⟨.str _, H, I.tok _, ⟨_, rfl⟩, q⟩
  | int i =>
    obtain ⟨t, rfl⟩ := rx
    exact PySem.P.repr_of_int (by simpa [PyData.showable] using hs) ⟨.str _, H, I.tok _, ⟨_, rfl⟩, q⟩
  | str z =>
    obtain ⟨t, rfl⟩ := rx
    exact PySem.P.repr_of_str ⟨.str _, H, I.tok _, ⟨_, rfl⟩, q⟩ hl
  | lst h1 h2 =>
    cases rx
    obtain ⟨as, rd⟩ := Dp.reads I _ _ _ (.lst h1 h2) rfl
    exact repr_of_reads' rd hs (PyData.noDict_hsm hn) hA (by omega) (fun _ _ e => e) (fun h' u tk hk => ⟨.str _, H, I.kept hk, ⟨_, rfl⟩, q⟩) hl
  | tup h1 h2 =>
    cases rx
    obtain ⟨as, rd⟩ := Dp.reads I _ _ _ (.tup h1 h2) rfl
    exact repr_of_reads' rd hs (PyData.noDict_hsm hn) hA (by omega) (fun _ _ e => e) (fun h' u tk hk => ⟨.str _, H, I.kept hk, ⟨_, rfl⟩, q⟩) hl
end
/-- none, or a whole number, shown -/
theorem data_opt {d : PyData} (h : d = .none ∨ ∃ i : Int, d = .int i ∧ i.natAbs < 2 ^ 1900) : d.showable = true ∧ d.hasDict = false ∧ d.depth ≤ 60 ∧ d.shown.length ≤ sizeLine := by
  rcases h with rfl | ⟨i, rfl, hi⟩
  · refine ⟨?_, ?_, ?_, ?_⟩ <;> first | rfl | decide +kernel
  · have l1 : i.natAbs.log2 < 1920 := Nat.lt_of_lt_of_le (PySem.Flt.log2_lt_of (by decide) hi) (by decide)
    have s1 : (PyData.shown (.int i)).length ≤ 1921 := PyProof.Rows.int_text_len_1921 l1
    refine ⟨?_, ?_, ?_, ?_⟩
    · simpa only [PyData.showable, decide_eq_true_eq] using l1
    · simp [PyData.hasDict]
    · simp [PyData.depth]
    · exact Nat.le_trans s1 (by decide)
end My

namespace My
open PySem PySem.Spec PyProof.Rows L2 LamX
/-! ### the law's call, by a promise of that kind, where a def of the top makes functions: the table of its code objects is tracked -/
section
variable {P : Program} {w : World} {K : PySem.W.Frag} {mg mb : Str → Option Value} {k : Nat} {fa a c T : Addr} {fd : FuncData} {x : Str} {sp : Sp} {s₁ : Shared} {vs : List Value} {ns : List Int}
theorem law_withT (KX : K.In s₁.heap) (hns : s₁.heap.Ns mainGlobals mg) (hb : s₁.heap.Ns builtinsNs mb) (hbb : ∀ x : Str, x ≠ "__name__" → mb x = bootBuiltins x) (hlim : s₁.heap.NoLimit) (hg : s₁.gens = #[])
    (hbm : ∃ (bm : Addr) (ob : Obj), mg "__builtins__" = some (.ref bm) ∧ bm ≠ builtinsNs ∧ s₁.heap.get? bm = some ob ∧ ob.cls = .type "module" ∧ ob.dict = some builtinsNs ∧ ob.data = .plain)
    (hT : s₁.heap.get? T = some { cls := .none, data := .fields #[] }) (nT : K.lookup T = none) (hc : PySem.W.CodeHd s₁.heap c T)
    (ha : s₁.heap.get? a = some { cls := .type "list", data := .seq vs.toArray }) (hr : Room k callerA)
    (F : ∀ base : Heap, K.In base → base.Ns mainGlobals mg → TabB base mg c T → FnG P w K mg base k fa fd [x] sp) (hbind : ∀ (s : Shared) (u : Value), BindsTo s fd ⟨[u], []⟩ [(x, u)])
    {H : Hp} (off : ∀ b, b ≠ a → b ≠ T → H b = none) (tab : H T = some (.tbl #[])) (own : K.lookup a ≠ none → H a = none) (frz : ∀ u, H a = some u → ∃ ob xs, u = .frz ob (.lst xs)) (hok : HOk P w H s₁.heap)
    (hsp : sp [.ref a] H (fun v _ => v = .bl true) fun _ _ _ => False) :
    codeAny (model P w) callerA (.call (.ref fa) ⟨[.ref a], []⟩) (fun r s' => r = .ok (.ret (.bool true)) ∧ OldK s₁.heap s'.heap ∧ s'.os = s₁.os ∧ AllBare s'.gens) s₁ := by
  have stays : ∀ {b : Addr} {o : Obj}, s₁.heap.get? b = some o → b ≠ a → b ≠ T → (hidT s₁.heap H).get? b = some o := fun e n m => hidT_get e (off _ n m)
  have kinds : ∀ {b : Addr} {o : Obj}, s₁.heap.get? b = some o → (∀ vs n, o.data ≠ .seq vs n) → o.data ≠ .fields #[] → b ≠ a ∧ b ≠ T := by
    intro b o e h1 h2
    constructor
    · rintro rfl
      rw [ha] at e
      cases e
      exact h1 _ _ rfl
    · rintro rfl
      rw [hT] at e
      cases e
      exact h2 rfl
  have dicts : ∀ {b : Addr} {o : Obj} {es : Array DictEntry} {n : Nat}, s₁.heap.get? b = some o → o.data = .dict es n → b ≠ a ∧ b ≠ T := fun e d => kinds e (fun _ _ z => by rw [d] at z; cases z) fun z => by rw [d] at z; cases z
  have tables : ∀ {b : Addr} {m : Str → Option Value}, s₁.heap.Ns b m → (hidT s₁.heap H).Ns b m := fun {b m} h => by
    obtain ⟨o, es, n, e, d, r⟩ := h
    exact ⟨o, es, n, stays e (dicts e d).1 (dicts e d).2, d, r⟩
  have inK : K.In (hidT s₁.heap H) := fun b o e => by
    have nt : b ≠ T := by
      rintro rfl
      rw [nT] at e
      cases e
    by_cases z : b = a
    · subst z
      exact hidT_get (KX _ _ e) (own (by rw [e]; simp))
    · exact stays (KX _ _ e) z nt
  have gT : mainGlobals ≠ T := by
    obtain ⟨o, es, n, e, d, _⟩ := hns
    exact (dicts e d).2
  have tb : TabB (hidT s₁.heap H) mg c T := by
    refine ⟨?_, ?_, gT⟩
    · obtain ⟨o, us, file, tf, flags, tg, inF, text, tt, e1, r1, r2, r3, r⟩ := hc
      obtain ⟨n1, n2⟩ := kinds e1 (fun _ _ z => by rw [r2] at z; cases z) fun z => by
        rw [r2] at z
        cases z
        simp at r3
      exact ⟨o, us, file, tf, flags, tg, inF, text, tt, stays e1 n1 n2, r1, r2, r3, r⟩
    · obtain ⟨bm, ob, b1, b2, b3, b4, b5, b6⟩ := hbm
      obtain ⟨n1, n2⟩ := kinds b3 (fun _ _ z => by rw [b6] at z; cases z) fun z => by rw [b6] at z; cases z
      have nG : bm ≠ mainGlobals := by
        rintro rfl
        obtain ⟨o, es, n, e, d, _⟩ := hns
        rw [b3] at e
        cases e
        rw [b6] at d
        cases d
      exact ⟨bm, ob, b1, b2, nG, n2, stays b3 n1 n2, b4, b5, b6⟩
  obtain ⟨mc, l1, l2⟩ := hlim
  have e0 : Env0 P w K mg (hidT s₁.heap H) callerA [] s₁ H :=
    ⟨rfl, ⟨inK, tables hns, ⟨mb, tables hb, hbb⟩, mc, tables l1, l2⟩, fun b o e => of_hidT e, Nat.le_of_eq (hidT_size _ _), trivial, fun b hb => absurd (show b ∈ ([] : List Addr) from hb) (by simp), hok, .of_eq hg⟩
  have run := (F _ inK (tables hns) tb).run callerA [] s₁ H ⟨[.ref a], []⟩ [.ref a] [.ref a] _ _ rfl hr e0 (hbind s₁ (.ref a)) (.cons rfl .nil) hsp
  refine codeAny_mono run ?_
  intro r s' h
  match r, h with
  | .error _, h => exact False.elim h
  | .ok (.ret u), ⟨v, H', os, bare, un, hok', rv, q⟩ =>
    have q' : v = .bl true := q
    subst q'
    obtain rfl : u = Value.bool true := rv
    obtain ⟨more, hm⟩ := un.tbls T #[] tab
    have grown : s'.heap.get? T = some { cls := .none, data := .fields (#[] ++ more) } := hok' T _ hm
    have same : ∀ b o, b ≠ T → s₁.heap.get? b = some o → s'.heap.get? b = some o := fun b o nt e => by
      cases z : H b with
      | none => exact un.keep b o e z (fun y => absurd (show b ∈ ([] : List Addr) from y) (by simp)) (by simp)
      | some u =>
        have ba : b = a := Classical.byContradiction fun y => by rw [off b y nt] at z; cases z
        subst ba
        obtain ⟨ob, xs, rfl⟩ := frz u z
        obtain ⟨e1, _⟩ := hok b _ z
        obtain ⟨e2, _⟩ := hok' b _ (un.frzs b ob _ z)
        rw [e] at e1
        cases e1
        exact e2
    refine ⟨rfl, ⟨fun b o e => ?_, fun b o e => ?_⟩, os, bare⟩
    · by_cases z : b = T
      · subst z
        rw [hT] at e
        cases e
        exact .inr (.inl ⟨(hc.tab hT).isCodeTable, rfl, #[], more, rfl, grown⟩)
      · exact .inl (same b o z e)
    · by_cases z : b = T
      · subst z
        exact ⟨_, grown⟩
      · exact ⟨o, same b o z e⟩
theorem law_callT (KX : K.In s₁.heap) (hns : s₁.heap.Ns mainGlobals mg) (hb : s₁.heap.Ns builtinsNs mb) (hbb : ∀ x : Str, x ≠ "__name__" → mb x = bootBuiltins x) (hlim : s₁.heap.NoLimit) (hg : s₁.gens = #[])
    (hbm : ∃ (bm : Addr) (ob : Obj), mg "__builtins__" = some (.ref bm) ∧ bm ≠ builtinsNs ∧ s₁.heap.get? bm = some ob ∧ ob.cls = .type "module" ∧ ob.dict = some builtinsNs ∧ ob.data = .plain)
    (hT : s₁.heap.get? T = some { cls := .none, data := .fields #[] }) (nT : K.lookup T = none) (hc : PySem.W.CodeHd s₁.heap c T)
    (ha : s₁.heap.get? a = some { cls := .type "list", data := .seq vs.toArray }) (hi : IntsAre vs ns) (hl : ns.length ≤ sizeLine) (hr : Room k callerA)
    (F : ∀ base : Heap, K.In base → base.Ns mainGlobals mg → TabB base mg c T → FnG P w K mg base k fa fd [x] sp) (hbind : ∀ (s : Shared) (u : Value), BindsTo s fd ⟨[u], []⟩ [(x, u)])
    (hsp : ∀ H : Hp, H T = some (.tbl #[]) → SqL K H a (ns.map V.int) → sp [.ref a] H (fun v _ => v = .bl true) fun _ _ _ => False) :
    codeAny (model P w) callerA (.call (.ref fa) ⟨[.ref a], []⟩) (fun r s' => r = .ok (.ret (.bool true)) ∧ OldK s₁.heap s'.heap ∧ s'.os = s₁.os ∧ AllBare s'.gens) s₁ := by
  have rel := vals_ints hi
  have aT : a ≠ T := by
    rintro rfl
    rw [ha] at hT
    cases hT
  by_cases hk : K.lookup a = none
  · let it : HO := .frz { cls := .type "list", data := .seq vs.toArray } (.lst (ns.map V.int))
    let H : Hp := upd (upd (fun _ => none) a it) T (.tbl #[])
    have there : H a = some it := (upd_ne aT).trans upd_same
    have tab : H T = some (.tbl #[]) := upd_same
    refine law_withT KX hns hb hbb hlim hg hbm hT nT hc ha hr F hbind (H := H) (fun b n m => (upd_ne m).trans (upd_ne n)) tab (fun z => absurd hk z) (fun u e => ?_) (fun b u e => ?_) (hsp _ tab (.inl (.inr ⟨_, there⟩)))
    · rw [there] at e
      cases e
      exact ⟨_, _, rfl⟩
    · by_cases z : b = T
      · subst z
        rw [tab] at e
        cases e
        exact hT
      by_cases z : b = a
      · subst z
        rw [there] at e
        cases e
        exact ⟨ha, by rw [List.length_map]; exact hl, vs, _, rel, ha⟩
      · have : H b = none := (upd_ne (by assumption)).trans (upd_ne z)
        rw [this] at e
        cases e
  · obtain ⟨o, ho⟩ := Option.ne_none_iff_exists'.mp hk
    have e := KX a o ho
    rw [ha] at e
    cases e
    let H : Hp := upd (fun _ => none) T (.tbl #[])
    have tab : H T = some (.tbl #[]) := upd_same
    have na : H a = none := upd_ne aT
    refine law_withT KX hns hb hbb hlim hg hbm hT nT hc ha hr F hbind (H := H) (fun b _ m => upd_ne m) tab (fun _ => na) (fun u e => by rw [na] at e; cases e) (fun b u e => ?_) (hsp _ tab (.inr ⟨_, vs.toArray, _, ho, rfl, rfl, rfl, by rw [List.size_toArray, hi.length]; exact hl, by simpa using rel⟩))
    by_cases z : b = T
    · subst z
      rw [tab] at e
      cases e
      exact hT
    · rw [show H b = none from upd_ne z] at e
      cases e
end
/-- where the def mk of the top keeps its code objects -/
def MakerK (K : PySem.W.Frag) (mg : Str → Option Value) (mk : Str) (c T : Addr) : Prop := ∃ (fm : Addr) (om : Obj) (fdm : FuncData) (e : Value) (dd : Option Addr) (vs : Array Value) (sl : Array (Option Value)), mg mk = some (.ref fm) ∧ K.lookup fm = some om ∧ om.data = .func fdm ∧ fdm.code = .ref c ∧ K.lookup c = some ⟨e, dd, .fields vs, sl⟩ ∧ vs[11]? = some (.ref T) ∧ K.lookup T = none
theorem walk_ofT {l : PySem.W.OpenLaw} {n k : Nat} {q : Program} {loose : List Str} {XP : (Str → Option Value) → Heap → Prop} {YP : World → Heap → Prop} {d : DefRec} {K : Params → PySem.W.Frag} {sp : World → Addr → Addr → Sp} {x mk : Str}
    (hn : l.most = some n) (hn2 : n ≤ sizeLine) (hdf : d.params.defaults = []) (hr : Room k callerA) (hrec : ((recsOf q).any fun e => e.name == mk) = true) (hY : ∀ (w : World) (h : Heap), YP w h → (K w.params).In h)
    (F : ∀ (w : World) (mg : Str → Option Value) (fa : Addr) (h : Heap), (K w.params).In h → h.Ns mainGlobals mg → mg d.name = some (.ref fa) →
      ∃ (fd : FuncData) (c T : Addr), MakerK (K w.params) mg mk c T ∧ (∀ (s : Shared) (u : Value), BindsTo s fd ⟨[u], []⟩ [(x, u)]) ∧ ∀ base : Heap, (K w.params).In base → base.Ns mainGlobals mg → TabB base mg c T → FnG l.prog w (K w.params) mg base k fa fd [x] (sp w c T))
    (hsp : ∀ (w : World) (c T : Addr) (H : Hp) (a : Addr) (ns : List Int), ns.length ≤ n → H T = some (.tbl #[]) → SqL (K w.params) H a (ns.map V.int) → sp w c T [.ref a] H (fun v _ => v = .bl true) fun _ _ _ => False) :
    PySem.W.WalkO q loose XP YP l.row.toRowW d [] (fun f vs => PySem.call f vs) := by
  refine Att.attach_call hn hdf fun w s₀ s₁ mg mb fa o pm cd doc a vs ns G Y ho hd hcd hmg hobj hints hlen hg => ?_
  have KX := hY w _ Y
  obtain ⟨fd, c, T, ⟨fm, om, fdm, e, dd, us, sl, m1, m2, m3, m4, m5, m6, m7⟩, hb, hF⟩ := F w mg fa _ KX G.T.g hmg
  obtain ⟨r, hr1, hr2⟩ := List.any_eq_true.mp hrec
  have hr3 : r.name = mk := beq_iff_eq.mp hr2
  obtain ⟨a', o', fd', c', P', h1, h2, h3, h4, h5, h6⟩ := G.T.tab r hr1
  rw [hr3, m1] at h1
  cases h1
  have g1 := KX _ _ m2
  rw [g1] at h2
  cases h2
  rw [m3] at h3
  cases h3
  rw [m4] at h4
  cases h4
  have hd := PySem.W.CodeHd.of h5 h6
  obtain ⟨⟨oc, vc, e1, _, e3, e4⟩, hP⟩ := h6
  have g2 := KX _ _ m5
  rw [g2] at e1
  cases e1
  cases e3
  rw [m6] at e4
  cases e4
  exact law_callT KX G.T.g G.T.b G.T.builtins G.T.nolimit hg G.T.bmain hP m7 hd hobj hints (Nat.le_trans hlen hn2) hr hF hb fun H hT hS => hsp w c T H a ns hlen hT hS
end My

namespace My
open PySem PySem.Spec PyProof.Rows L2 LamX NdefX
/-! ### functions made by a def that has ended, called elsewhere -/
/-- a cell that holds v -/
def CellO (c : Addr) (v : V) : HO := .ext fun h => ∃ u, RelV v u ∧ h.IsCell c (some u)
theorem cellO_tbl {c : Addr} {v : V} (ps : Array Value) : CellO c v ≠ .tbl ps := fun z => by
  unfold CellO at z
  cases z
theorem cellO_at {P : Program} {w : World} {H : Hp} {h : Heap} {c : Addr} {v : V} (hok : HOk P w H h) (e : H c = some (CellO c v)) : ∃ u, RelV v u ∧ h.IsCell c (some u) := by
  obtain ⟨z, _, _⟩ := hok c _ e
  exact z
theorem cellO_ok {P : Program} {w : World} {H : Hp} {h : Heap} {c : Addr} {v : V} {u : Value} (r : RelV v u) (hc : h.IsCell c (some u)) : ObjOk P w H h c (CellO c v) := by
  obtain ⟨o, ho, hd⟩ := id hc
  refine ⟨⟨u, r, hc⟩, ⟨o, ho⟩, ?_⟩
  rintro h1 h2 ⟨u, r, o, ho, hd⟩ st
  exact ⟨u, r, o, st _ ho, hd⟩
/-- the function F stands at f, its cells hold ws -/
structure CloAt (H : Hp) (f : Addr) (F : NF) (fr : List Str) (ws : List V) : Prop where
  fn : H f = some (FnO f F)
  code : H F.c = some (CodeO F.c F.qual)
  len : ws.length = fr.length
  cells : ∀ y c, F.cl.lookup y = some c → ∃ (i : Nat) (v : V), fr[i]? = some y ∧ ws[i]? = some v ∧ H c = some (CellO c v)
  inj : ∀ x y c, F.cl.lookup x = some c → F.cl.lookup y = some c → x = y
  has : ∀ (i : Nat) (y : Str), fr[i]? = some y → ∃ c, F.cl.lookup y = some c
  nd : fr.Nodup
theorem codeO_tbl {c : Addr} {q : Str} (ps : Array Value) : CodeO c q ≠ .tbl ps := fun z => by
  unfold CodeO at z
  cases z
theorem CloAt.ext {H H' : Hp} {f : Addr} {F : NF} {fr : List Str} {ws : List V} (C : CloAt H f F fr ws) (e : ExtN H H') : CloAt H' f F fr ws :=
  ⟨e _ _ C.fn fun ps => fnO_ne ps, e _ _ C.code fun ps => codeO_tbl ps, C.len, fun y c h => let ⟨i, v, h1, h2, h3⟩ := C.cells y c h; ⟨i, v, h1, h2, e _ _ h3 fun ps => cellO_tbl ps⟩, C.inj, C.has, C.nd⟩
theorem CloAt.same {H H' : Hp} {f : Addr} {F : NF} {fr : List Str} {ws : List V} (C : CloAt H f F fr ws) (s : Same H H') : CloAt H' f F fr ws := C.ext fun b o e _ => s b o e
/-- whether it is one of its cells -/
def isC (F : NF) (b : Addr) : Prop := ∃ y, F.cl.lookup y = some b
open Classical in
/-- the heap without the cells -/
noncomputable def hideC (F : NF) (H : Hp) : Hp := fun b => if isC F b then none else H b
open Classical in
/-- the heap H', with the cells as in H -/
noncomputable def mixC (F : NF) (H H' : Hp) : Hp := fun b => if isC F b then H b else H' b
section
variable {F : NF} {H H' : Hp} {b : Addr} {o : HO}
theorem hide_in (h : isC F b) : hideC F H b = none := by unfold hideC; exact if_pos h
theorem hide_out (h : ¬ isC F b) : hideC F H b = H b := by unfold hideC; exact if_neg h
theorem mix_in (h : isC F b) : mixC F H H' b = H b := by unfold mixC; exact if_pos h
theorem mix_out (h : ¬ isC F b) : mixC F H H' b = H' b := by unfold mixC; exact if_neg h
theorem hide_some (e : hideC F H b = some o) : ¬ isC F b ∧ H b = some o := by
  by_cases h : isC F b
  · rw [hide_in h] at e
    cases e
  · rw [hide_out h] at e
    exact ⟨h, e⟩
theorem hide_none (e : H b = none) : hideC F H b = none := by
  by_cases h : isC F b
  · exact hide_in h
  · rw [hide_out h]; exact e
theorem hide_of {f : Addr} {fr : List Str} {ws : List V} (C : CloAt H f F fr ws) (e : H b = some o) (n : ∀ v, o ≠ CellO b v) : hideC F H b = some o := by
  refine (hide_out fun h => ?_).trans e
  obtain ⟨y, hy⟩ := h
  obtain ⟨i, v, _, _, h3⟩ := C.cells y b hy
  rw [e] at h3
  exact n v (Option.some.inj h3)
theorem mix_of {f : Addr} {fr : List Str} {ws : List V} (C : CloAt H f F fr ws) (e : H' b = some o) (n : ∀ y, F.cl.lookup y = some b → H' b = none) : mixC F H H' b = some o := by
  refine (mix_out fun h => ?_).trans e
  obtain ⟨y, hy⟩ := h
  rw [n y hy] at e
  cases e
/-- what a run without the cells keeps, it keeps with them -/
theorem mix_keep (k : hideC F H b = some o → H' b = some o) (e : H b = some o) : mixC F H H' b = some o := by
  by_cases h : isC F b
  · rw [mix_in h]; exact e
  · rw [mix_out h]
    exact k ((hide_out h).trans e)
end
theorem hide_hok {P : Program} {w : World} {F : NF} {H : Hp} {h : Heap} {f : Addr} {fr : List Str} {ws : List V} (C : CloAt H f F fr ws) (ok : HOk P w H h) : HOk P w (hideC F H) h := fun a o e => by
  obtain ⟨n, e'⟩ := hide_some e
  refine (ok a o e').stay (fun b u _ q => q) (fun b q => hide_of C q fun v z => ?_) (fun b xs q => hide_of C q fun v z => ?_)
  · unfold CellO at z; cases z
  · unfold CellO at z; cases z
/-- a call of such a function -/
theorem clo_run {P : Program} {w : World} {K : PySem.W.Frag} {mg : Str → Option Value} {base : Heap} {k : Nat} {f : Addr} {F : NF} {ps fr : List Str} {sp : List (Option V) → Sp} (Fn : NOk P w K mg base CX0 k f F ps fr sp)
    {A : Around} {outer : List Env} {s : Shared} {H : Hp} {us : List Value} {vs : List V} {ws : List V} {Q : VK} (hr : Room k A) (e0 : Env0 P w K mg base A outer s H) (C : CloAt H f F fr ws) (r : Vals vs us)
    (hsp : sp (ws.map some) vs (hideC F H) (fun v H' => (∀ b, isC F b → H' b = none) → Q v (mixC F H H')) E0) : codeAny (model P w) A (.call (.ref f) ⟨us, []⟩) (CR CX0 outer P w H s Q E0) s := by
  have cel : ∀ y c, F.cl.lookup y = some c → ∃ (i : Nat) (v : V), fr[i]? = some y ∧ ws[i]? = some v ∧ ∃ u, RelV v u ∧ s.heap.IsCell c (some u) := fun y c h => by
    obtain ⟨i, v, h1, h2, h3⟩ := C.cells y c h
    exact ⟨i, v, h1, h2, cellO_at e0.hok h3⟩
  have e1 : Env0 P w K mg base A outer s (hideC F H) := ⟨e0.frames, e0.mod, fun b o e => ⟨(e0.bs b o e).1, hide_none (e0.bs b o e).2⟩, e0.bsz, e0.funs, fun b hb => hide_none (e0.frf b hb), hide_hok C e0.hok, e0.bare⟩
  have c1 : CellsAt F.cl fr (ws.map some) s.heap (hideC F H) := by
    refine ⟨by rw [List.length_map]; exact C.len, fun y c e => ⟨hide_in ⟨y, e⟩, ?_⟩, C.inj, fun i y e => ?_⟩
    · obtain ⟨i, v, _, _, u, _, hc⟩ := cel y c e
      exact ⟨some u, hc⟩
    · obtain ⟨c, hc⟩ := C.has i y e
      refine ⟨c, hc, fun v ev => ?_⟩
      obtain ⟨j, v', g1, g2, u, ru, hu⟩ := cel y c hc
      have ij : i = j := nodup_ix C.nd e g1
      subst ij
      rw [List.getElem?_map, g2] at ev
      cases ev
      exact ⟨u, ru, hu⟩
  have run := Fn.run A outer s (hideC F H) us vs (ws.map some) (fun v H' => (∀ b, isC F b → H' b = none) → Q v (mixC F H H')) E0 hr e1 (hide_of C C.fn fun v z => by
    have p1 : FnO f F = CellO f v := z
    obtain ⟨od, sl, doc, pm, ctv, ho⟩ := fnO_at e0.hok C.fn
    have q := C.fn
    rw [p1] at q
    obtain ⟨u, _, o, ho', hd⟩ := cellO_at e0.hok q
    rw [ho] at ho'
    cases ho'
    cases hd) (hide_of C C.code fun v z => by
    have p1 : CodeO F.c F.qual = CellO F.c v := z
    obtain ⟨c', oc, vs', t, e', hoc, hd', _⟩ := codeO_at e0.hok C.code
    cases e'
    have q := C.code
    rw [p1] at q
    obtain ⟨u, _, o, ho', hd⟩ := cellO_at e0.hok q
    rw [hoc] at ho'
    cases ho'
    rw [hd'] at hd
    cases hd) c1 r hsp
  refine codeAny_mono run fun res s' z => ?_
  match res, z with
  | .error _, z => exact z
  | .ok (.ret u), ⟨v, H', os, bare, un, hok', rv, q⟩ =>
    have cn : ∀ b, isC F b → H' b = none := fun b ⟨y, hy⟩ => by
      obtain ⟨i, v, _, _, u, _, o, ho, _⟩ := cel y b hy
      exact un.free b o ho (hide_in ⟨y, hy⟩) (by simp)
    have ck : ∀ y c, F.cl.lookup y = some c → ∀ u, s.heap.IsCell c (some u) → s'.heap.IsCell c (some u) := fun y c hy u ⟨o, ho, hd⟩ => by
      obtain ⟨sl, h'⟩ := un.any ho (hide_in ⟨y, hy⟩) (by simp)
      exact ⟨_, h', hd⟩
    refine ⟨v, mixC F H H', os, bare, ⟨fun b o q n hb hx => ?_, fun b o q n hb hx => ?_, fun b o q n hx => ?_, un.there, fun b xs e => ?_, fun b o u e => ?_, fun b ps e => ?_⟩, ?_, rv, q cn⟩
    · exact un.keep b o q (hide_none n) hb hx
    · exact un.slot b o q (hide_none n) hb hx
    · by_cases z : isC F b
      · rw [mix_in z]; exact n
      · rw [mix_out z]; exact un.free b o q (hide_none n) hx
    · exact mix_keep (un.tups b xs) e
    · exact mix_keep (un.frzs b o u) e
    · by_cases z : isC F b
      · obtain ⟨y, hy⟩ := z
        obtain ⟨i, v, _, _, h3⟩ := C.cells y b hy
        rw [e] at h3
        cases h3
      · obtain ⟨more, hm⟩ := un.tbls b ps ((hide_out z).trans e)
        exact ⟨more, (mix_out z).trans hm⟩
    · intro b o e
      by_cases z : isC F b
      · obtain ⟨y, hy⟩ := z
        rw [mix_in ⟨y, hy⟩] at e
        obtain ⟨i, v, _, _, h3⟩ := C.cells y b hy
        rw [h3] at e
        cases e
        obtain ⟨u, ru, hu⟩ := cellO_at e0.hok h3
        exact cellO_ok ru (ck y b hy u hu)
      · rw [mix_out z] at e
        have st : ∀ {c : Addr} {u : HO}, H' c = some u → mixC F H H' c = some u := fun {c u} q => (mix_out fun z => by rw [cn c z] at q; cases q).trans q
        exact (hok' b o e).stay (fun _ _ _ q => q) (fun c q => st q) (fun c xs q => st q)
  | .ok .next, z => exact z
  | .ok .brk, z => exact z
  | .ok .cont, z => exact z
/-- what is asked of a function at f, for an answer -/
def AskF (P : Program) (w : World) (K : PySem.W.Frag) (mg : Str → Option Value) (base : Heap) (k : Nat) (f : Addr) (vs : List V) (H : Hp) (Q : VK) : Prop := ∃ (F : NF) (ps fr : List Str) (ws : List V) (sp : List (Option V) → Sp), NOk P w K mg base CX0 k f F ps fr sp ∧ CloAt H f F fr ws ∧ sp (ws.map some) vs (hideC F H) (fun v H' => (∀ b, isC F b → H' b = none) → Q v (mixC F H H')) E0
/-- the i-th slot holds a function -/
def tCallC (P : Program) (w : World) (K : PySem.W.Frag) (mg : Str → Option Value) (base : Heap) (k i : Nat) (t : TA) : TE := fun σ H Q => ∃ f F, σ[i]? = some (some (.ref f)) ∧ H f = some (FnO f F) ∧ t σ H fun vs H1 => AskF P w K mg base k f vs H1 Q
section
variable {X : Cx} {i k : Nat} {x : Str} {p pos : Pos} {e : Expr} {es : List Expr} {t : TA}
theorem pe_callC (hr : Room k X.A) (hN : X.N[i]? = some x) (hv : Vis X.env.scope x) (hx : Passes CX0 X E0) (ha : PA X (e :: es) t) (hdb : (x == ("__debug__" : Str)) = false := by decide) (hcd : (x == ("__classdict__" : Str)) = false := by decide)
    (he : starEach (e :: es) X.env = (false, eval e X.env) :: starEach es X.env := by rfl) (hpl : (backTo pos (starEach es X.env)).any (·.1) = false := by rfl) : PE X (.Call (.Name x p) (e :: es) [] pos) (tCallC X.prog X.w X.K X.mg X.base k i t) := by
  refine ⟨fun pins s σ H Q I h => ?_⟩
  obtain ⟨f, F0, hs, hf, ht⟩ := h
  refine wpAny_Call_Name_kw (thn ((pe_var (pos := p) hN hv hdb hcd).run pins s σ H (fun v H1 => v = .ref f ∧ H1 = H) I ⟨.ref f, hs, rfl, rfl⟩) fun u s1 ⟨v, H1, I1, r1, q1⟩ => ?_)
  obtain ⟨rfl, rfl⟩ := q1
  obtain rfl : u = Value.ref f := r1
  refine PySem.W.callWith_F (first := []) (fnAt_of I1 hf) (thn (ha.run pos pins s1 σ _ _ I1 ht) fun us s2 ⟨vs, H2, I2, r, F, ps, fr, ws, sp, Fn, C, q⟩ => ⟨fnAt_of I2 C.fn, ?_⟩) he hpl
  show wpAny _ _ (call (.ref f) us) _ _ _
  refine wpAny_call (codeAny_mono (clo_run Fn hr I2.env0 C r q) fun res s' z => ?_)
  match res, z with
  | .error _, z => exact hx pins σ H2 s2 _ s' I2 z
  | .ok (.ret _), z => exact I2.after z
end
/-- x is True, x is False, of anything -/
def rIsA : R2 := fun x y H Q => ∃ b : Bool, y = .bl b ∧ Q (.bl (decide (x = .bl b))) H
theorem op_isA {X : Cx} : OpR X (compareOp .Is) rIsA := by
  intro pins s σ H x y v u Q I rx ry h
  obtain ⟨b, rfl, q⟩ := h
  cases (show u = Value.bool b from ry)
  by_cases e : x = .bl b
  · subst e
    cases (show v = Value.bool b from rx)
    exact wpAny_is_self rfl ⟨.bl true, H, I, rfl, by simpa using q⟩
  · have nb : v ≠ Value.bool b := fun z => e (by
      subst z
      cases x with
      | bl c => cases (show Value.bool b = Value.bool c from rx); rfl
      | non => cases (show Value.bool b = Value.none from rx)
      | int i => obtain ⟨t, z⟩ := (show ∃ t, Value.bool b = Value.int i t from rx); cases z
      | str i => obtain ⟨t, z⟩ := (show ∃ t, Value.bool b = Value.str i t from rx); cases z
      | byt i => obtain ⟨t, z⟩ := (show ∃ t, Value.bool b = Value.bytes i t from rx); cases z
      | flt i => obtain ⟨t, z⟩ := (show ∃ t, Value.bool b = Value.float i t from rx); cases z
      | ref a => cases (show Value.bool b = Value.ref a from rx)
      | ty n => cases (show Value.bool b = Value.type n from rx))
    have pl : plainIs v (Value.bool b) = true := by
      cases x with
      | bl c => cases (show v = Value.bool c from rx); rfl
      | non => cases (show v = Value.none from rx); rfl
      | int i => obtain ⟨t, rfl⟩ := (show ∃ t, v = Value.int i t from rx); rfl
      | str i => obtain ⟨t, rfl⟩ := (show ∃ t, v = Value.str i t from rx); rfl
      | byt i => obtain ⟨t, rfl⟩ := (show ∃ t, v = Value.bytes i t from rx); rfl
      | flt i => obtain ⟨t, rfl⟩ := (show ∃ t, v = Value.float i t from rx); rfl
      | ref a => cases (show v = Value.ref a from rx); rfl
      | ty n => cases (show v = Value.type n from rx); rfl
    exact wpAny_is_other pl nb ⟨.bl false, H, I, rfl, by simpa [e] using q⟩
/-- isinstance of a function -/
def rIsiC : List V → Hp → VK → Prop := fun xs H Q => ∃ (f : Addr) (F : NF), xs = [.ref f, .ty "str"] ∧ H f = some (FnO f F) ∧ Q (.bl false) H
theorem call_isiC {X : Cx} : CallR X (.builtin "isinstance") rIsiC := by
  intro pins s σ H xs us Q I r h
  obtain ⟨f, F, rfl, hf, q⟩ := h
  obtain ⟨u1, u2, rfl, r1, r2⟩ := vals2 r
  have e2 := (ClsV.ty "str").eq r2
  subst e2
  cases (show u1 = Value.ref f from r1)
  obtain ⟨o, ho, hc⟩ := fn_type I hf
  have e : PySem.W.kitOne X.K (.type "function") (.type "str") = some false := kit_ty (by decide +kernel)
  exact PySem.W.kia_one PySem.W.my_kitx_fun I.kIn ⟨o, ho, hc⟩ e (fun z => nomatch z) fun tk => ⟨.bl false, H, I.tok tk, rfl, q⟩
end My

namespace My
open PySem PySem.Spec PyProof.Rows L2 LamX NdefX
/-! ### a def that makes a function and tells it: its cells are known behind its end -/
structure CellsOn (cells : List (Str × Addr)) (N : List Str) (sc : Scope) (σ : L2.St) (H2 H3 : Hp) : Prop where
  keep : ∀ b o, H2 b = some o → H3 b = some o
  at_ : ∀ (y : Str) (c : Addr) (i : Nat) (v : V), cells.lookup y = some c → N[i]? = some y → sc.names.lookup y = some .cell → σ[i]? = some (some v) → H3 c = some (CellO c v)
section
variable {P : Program} {w : World} {K : PySem.W.Frag} {mg : Str → Option Value} {base : Heap}
/-- what a cell of the frame holds -/
def HeldC (cells : List (Str × Addr)) (N : List Str) (sc : Scope) (σ : L2.St) (c : Addr) (v : V) : Prop := ∃ (y : Str) (i : Nat), cells.lookup y = some c ∧ N[i]? = some y ∧ sc.names.lookup y = some .cell ∧ σ[i]? = some (some v)
open Classical in
noncomputable def onC (cells : List (Str × Addr)) (N : List Str) (sc : Scope) (σ : L2.St) (H2 : Hp) : Hp := fun b => if h : ∃ v, HeldC cells N sc σ b v then some (CellO b h.choose) else H2 b
theorem maker_end {X : Cx} {σ : L2.St} {H2 : Hp} {s2 : Shared} (I : Inv X [] σ H2 s2) (nd : X.N.Nodup) (fn : ∀ x, X.fn x = true) (ex : X.ex = []) :
    CellsOn X.env.cells X.N X.env.scope σ H2 (onC X.env.cells X.N X.env.scope σ H2) ∧ Un X.fs X.ex X.H_0 (onC X.env.cells X.N X.env.scope σ H2) X.s_0.heap s2.heap ∧ HOk X.prog X.w (onC X.env.cells X.N X.env.scope σ H2) s2.heap := by
  have one : ∀ {b : Addr} {v v' : V}, HeldC X.env.cells X.N X.env.scope σ b v → HeldC X.env.cells X.N X.env.scope σ b v' → v = v' := by
    rintro b v v' ⟨y, i, h1, h2, _, h3⟩ ⟨y', i', g1, g2, _, g3⟩
    have ey := I.ok.inj y y' b h1 g1
    subst ey
    have ei := nodup_ix nd h2 g2
    subst ei
    rw [h3] at g3
    cases g3
    rfl
  have yes : ∀ {b : Addr} {v : V}, HeldC X.env.cells X.N X.env.scope σ b v → onC X.env.cells X.N X.env.scope σ H2 b = some (CellO b v) := fun {b v} h => by
    unfold onC
    rw [dif_pos ⟨v, h⟩, one (Exists.choose_spec (⟨v, h⟩ : ∃ v, HeldC X.env.cells X.N X.env.scope σ b v)) h]
  have no : ∀ {b : Addr}, (¬ ∃ v, HeldC X.env.cells X.N X.env.scope σ b v) → onC X.env.cells X.N X.env.scope σ H2 b = H2 b := fun {b} h => by
    unfold onC
    rw [dif_neg h]
  have keep : ∀ b o, H2 b = some o → onC X.env.cells X.N X.env.scope σ H2 b = some o := fun b o e => by
    refine (no fun ⟨v, y, i, h1, _⟩ => ?_).trans e
    rw [I.freeC y b h1] at e
    cases e
  have old : ∀ b o, X.s_0.heap.get? b = some o → onC X.env.cells X.N X.env.scope σ H2 b = H2 b := fun b o e => no fun ⟨v, y, i, h1, _⟩ => by
    exact absurd (Nat.lt_of_lt_of_le (Heap.lt_size e) (I.ok.cab y b (fn y) h1)) (Nat.lt_irrefl _)
  have base := I.base
  refine ⟨⟨keep, fun y c i v h1 h2 h3 h4 => yes ⟨y, i, h1, h2, h3, h4⟩⟩, ⟨base.keep, base.slot, fun b o q n hx => ?_, base.there, fun b xs e => keep _ _ (base.tups b xs e), fun b o u e => keep _ _ (base.frzs b o u e), fun b ps e => ?_⟩, fun b o e => ?_⟩
  · rw [old b o q]
    exact base.free b o q n hx
  · obtain ⟨more, z⟩ := base.tbls b ps e
    exact ⟨more, keep _ _ z⟩
  · by_cases z : ∃ v, HeldC X.env.cells X.N X.env.scope σ b v
    · obtain ⟨v, hv⟩ := z
      rw [yes hv] at e
      cases e
      obtain ⟨y, i, h1, h2, h3, h4⟩ := hv
      obtain ⟨m, _, hl⟩ := I.loc
      obtain ⟨u, ru, lk⟩ := hl i y v h2 h4 (.inr (.inl h3))
      rcases lk with ⟨l, _⟩ | ⟨_, c, hc, cell⟩
      · have l' : X.env.scope.names.lookup y = some .local := l
        rw [h3] at l'
        cases l'
      · rw [h1] at hc
        cases hc
        exact cellO_ok ru cell
    · rw [no z] at e
      exact (I.hok b o e).stay (fun _ _ _ q => q) (fun c q => keep _ _ q) (fun c xs q => keep _ _ q)
theorem maker_by {x qual : Str} {st : Stmt} {f c : Addr} {fd : FuncData} {N ps : List Str} {k : Nat} {sp : Sp} {oc dV kV doc pm ct : Value} {od an : Option Addr} {osl : Array (Option Value)}
    (hfd : fd = PySem.W.fnOf x qual (defArgs st) (defBody st) (defScope st) dV kV doc pm an (.ref c) ct) (look : K.lookup f = some ⟨oc, od, .func fd, osl⟩) (code : PySem.W.codeIn K (.ref c) qual = true)
    (S : FnScope N ps (defScope st)) (len : ∀ vs H Q E, sp vs H Q E → vs.length = ps.length) {st1 : Stmt} {e : Expr} {pos : Pos} (hb : defBody st = [st1, .Return (some e) pos])
    (body : ∀ (A : Around) (outer : List Env) (s : Shared) (H : Hp) (vs : List V) (Q : VK) (E : XK), Room k (A.deeper (envOfC qual (defScope st) s.heap.objs.size f (.ref c))) → sp vs H Q E →
      ∃ t1 te, PS (cxOf CX0 P w K mg base N qual (defScope st) f (.ref c) A outer s H E) st1 t1 ∧ PE (cxOf CX0 P w K mg base N qual (defScope st) f (.ref c) A outer s H E) e te ∧
        t1 { nx := fun σ1 H1 => te σ1 H1 fun v H2 => ∀ H3, CellsOn (cellsFrom (s.heap.objs.size + 1) (defScope st).names []) N (defScope st) σ1 H2 H3 → Q v H3, rt := fun _ _ => False } (start N vs) H) : FnOk P w K mg base CX0 (k + 1) f fd ps sp := by
  subst hfd
  constructor
  · exact len
  intro A outer s H args us vs Q E hr e0 hbd rel hsp
  have n := len _ _ _ _ hsp
  have old : ∀ b o, base.get? b = some o → s.heap.get? b = some o := fun b o e => (e0.bs b o e).1
  have inK : K.In s.heap := e0.mod.kin.keeps old
  obtain ⟨t1, te, h1, he, q⟩ := body A outer s H vs Q E (hr.deeper _) hsp
  have named : ∀ y ∈ ps.zip us, (defScope st).names.lookup y.1 = some .local ∨ ((defScope st).names.lookup y.1 = some .cell ∧ ((cellsFrom (s.heap.objs.size + 1) (defScope st).names []).lookup y.1).isSome = true) := by
    rintro ⟨m, v⟩ hy
    exact (S.par m (List.of_mem_zip hy).1).imp (fun z => z) fun z => ⟨z, PySem.W.cellsFrom_some _ _ _ (.inl z)⟩
  refine codeAny_call_function hr.depth (inK _ _ look) rfl S.co S.gen rfl (PySem.W.codeRec_of inK code) (hbd _ _ _ _ (wpAny_newFunctionEnv_cells S.kind named fun env hen s1 z => ?_))
  subst hen
  refine ⟨(e0.mod.nolimit.keeps old).keeps z.toInCall.keep, codeAny_func ?_⟩
  show wpAny _ _ (execs (defBody st) _) _ _ _
  rw [hb]
  have I0 := inv_start (CX := CX0) (P := P) (w := w) (K := K) (mg := mg) (base := base) (qual := qual) (f := f) (cd := .ref c) (E := E) S hr.hd e0 n rel z
  refine wpAny_execs_cons (wpAny_mono (h1.run [] s1 (start N vs) H _ I0 q) (fun fl s2 r => ?_) fun _ _ h => h)
  match fl, r with
  | .ret u, ⟨_, _, _, _, _, q'⟩ => exact q'.elim
  | .brk, ⟨_, _, _, q'⟩ => exact q'.elim
  | .cont, ⟨_, _, _, q'⟩ => exact q'.elim
  | .next, ⟨σ1, H1, I1, q1⟩ =>
    refine wpAny_execs_cons (wpAny_Return_some (wpAny_mono (he.run [] s2 σ1 H1 _ I1 q1) (fun u s3 r3 => ?_) fun _ _ h => h))
    obtain ⟨v, H2, I2, rv, q2⟩ := r3
    obtain ⟨m1, m2, m3⟩ := maker_end I2 S.nd (fun _ => rfl) rfl
    exact ⟨v, _, I2.os, I2.bare, m2, m3, rv, q2 _ m1⟩
end
end My

namespace My
open PySem L2
section
variable {σ : L2.St} {H : Hp} {Q : VK} {v x y : V} {te ta to ti : TE} {tr : TA} {K : PySem.W.Frag} {nx : L2.St → Hp → Prop} {rt : VK} {bk ct : L2.St → Hp → Prop}
theorem r_par {i j : Nat} (q : tr σ H fun vs H1 => ∃ v w, vs = [v, w] ∧ nx ((σ.set i (some v)).set j (some w)) H1) : tPar i j tr ⟨nx, rt, bk, ct⟩ σ H := q
theorem r_two {P : V → V → Prop} (q : P x y) : ∃ v w, [x, y] = [v, w] ∧ P v w := ⟨x, y, rfl, q⟩
theorem r_m1 {r : V → List V → Hp → VK → Prop} (q : to σ H fun x H1 => (∃ a, x = .str a) ∧ te σ H1 fun y H2 => r x [y] H2 Q) : tM1 r to te σ H Q := q
theorem r_isStr {a : Str} {P : Prop} (q : P) : (∃ b, V.str a = .str b) ∧ P := ⟨⟨a, rfl⟩, q⟩
theorem r_inT {t : Addr} {xs : List V} {b : Bool} (h : H t = some (.tup xs)) (f : flatV x = true) (fs : xs.all flatV = true) (e : inV x xs = b) (q : Q (.bl b) H) : rIn K false x (.ref t) H Q := ⟨t, xs, rfl, .inr (SqT.of h), f, fs, by
  subst e
  exact q⟩
theorem r_notInT {t : Addr} {xs : List V} {b : Bool} (h : H t = some (.tup xs)) (f : flatV x = true) (fs : xs.all flatV = true) (e : inV x xs = b) (q : Q (.bl (!b)) H) : rIn K true x (.ref t) H Q := ⟨t, xs, rfl, .inr (SqT.of h), f, fs, by
  subst e
  exact q⟩
theorem r_isN {P : V → Hp → Prop} {b : Bool} (e : decide (x = V.non) = b) (q : P (.bl b) H) : V.non = V.non ∧ P (.bl (decide (x = V.non))) H := ⟨rfl, by rw [e]; exact q⟩
theorem r_lcT {tl : TE} {g : TG} {tt : TT} {vs : List Nat} (q : tl σ H fun x H1 => ∃ a, x = .ref a ∧ (∃ xs, SqT K H1 a xs) ∧ ∀ D, H1 D = none → ∃ W : Nat → Nat → Hp → Prop, (∃ m, W 0 m (upd H1 D (.lst []))) ∧ ∀ i m H, W i m H →
    ((Itt K a).stop i H ∧ Q (.ref D) H) ∨ ((Itt K a).go i H ∧ ∃ Nx : Hp → Prop, (∀ H', Nx H' → ∃ m', m' < m ∧ W (i + 1) m' H') ∧ ∀ x H', (Itt K a).yld i H x H' → g x (wipe σ vs) H' fun σ2 H2 => wipe σ2 vs = wipe σ vs ∧ tt σ2 H2 fun b H3 =>
      if b = true then te σ2 H3 fun y H4 => ∃ acc, H4 D = some (.lst acc) ∧ acc.length < sizeLine ∧ Nx (upd H4 D (.lst (acc ++ [y]))) else Nx H3)) : tLc (iTup K tl) g tt te vs σ H Q := q
theorem r_rng2 {g : TG} {tb : TS} {D : Ends} (q : tr σ H fun vs H1 => ∃ i j : Int, vs = [.int i, .int j] ∧ (-(2 ^ 62) ≤ i ∧ i < 2 ^ 62 ∧ -(2 ^ 62) ≤ j ∧ j < 2 ^ 62) ∧ ∃ W : Nat → Nat → L2.St → Hp → Prop, (∃ m, W 0 m σ H1) ∧ ∀ k m σ H, W k m σ H →
    ((Itr i (j - i).toNat).stop k H ∧ D.nx σ H) ∨ ((Itr i (j - i).toNat).go k H ∧ ∃ N : L2.St → Hp → Prop, (∀ σ' H', N σ' H' → ∃ m', m' < m ∧ W (k + 1) m' σ' H') ∧ ∀ x H', (Itr i (j - i).toNat).yld k H x H' → g x σ H' fun σ2 H2 => tb { D with nx := N, ct := N, bk := D.nx } σ2 H2)) : tFor (iRng2 tr) g tb D σ H := q
theorem r_gTup {a : Addr} {xs : List V} {n : Nat} {t : TGs} {QS : L2.St → Hp → Prop} (h : H a = some (.tup xs)) (l : xs.length = n) (q : t xs σ H QS) : gTup K n t (.ref a) σ H QS := ⟨a, xs, rfl, SqT.of h, l, q⟩
theorem r_gCons {t : TG} {u : TGs} {xs : List V} {QS : L2.St → Hp → Prop} (q : t x σ H fun σ' H' => u xs σ' H' QS) : gCons t u (x :: xs) σ H QS := ⟨x, xs, rfl, q⟩
theorem r_gNil {QS : L2.St → Hp → Prop} (q : QS σ H) : gNil [] σ H QS := ⟨rfl, q⟩
theorem r_aug {i : Nat} {ti : TIp} (q : ∃ x, σ[i]? = some (some x) ∧ te σ H fun y H1 => ti x y H1 fun z H2 => nx (σ.set i (some z)) H2) : tAug i te ti ⟨nx, rt, bk, ct⟩ σ H := q
theorem r_ip {f : Int → Int → Int} {i j : Int} (q : Q (.int (f i j)) H) : ipI f (.int i) (.int j) H Q := ⟨i, j, rfl, rfl, q⟩
theorem r_bits (q : to σ H fun x H1 => ∃ i, x = .int i ∧ Q (.int (Builtin.Int.intBits i : Nat)) H1) : tBits to σ H Q := q
theorem r_dget2 {td ty tx : TE} (q : td σ H fun x H1 => ∃ a, x = .ref a ∧ IsD H1 a ∧ ty σ H1 fun y H2 => tx σ H2 fun z H3 => ∃ o, DGet H3 a y o ∧ Q (o.getD z) H3) : tDGet2 td ty tx σ H Q := q
theorem r_rng1 {g : TG} {tb : TS} {D : Ends} (q : tr σ H fun vs H1 => ∃ j : Int, vs = [.int j] ∧ -(2 ^ 62) ≤ j ∧ j < 2 ^ 62 ∧ ∃ W : Nat → Nat → L2.St → Hp → Prop, (∃ m, W 0 m σ H1) ∧ ∀ k m σ H, W k m σ H →
    ((Itr 0 j.toNat).stop k H ∧ D.nx σ H) ∨ ((Itr 0 j.toNat).go k H ∧ ∃ N : L2.St → Hp → Prop, (∀ σ' H', N σ' H' → ∃ m', m' < m ∧ W (k + 1) m' σ' H') ∧ ∀ x H', (Itr 0 j.toNat).yld k H x H' → g x σ H' fun σ2 H2 => tb { D with nx := N, ct := N, bk := D.nx } σ2 H2)) : tFor (iRng1 tr) g tb D σ H := q
end
end My

local macro_rules | `(tactic| walk_at "rd2") => `(tactic| first
  | with_reducible refine My.r_par ?_
  | with_reducible refine My.r_two ?_
  | with_reducible refine My.r_m1 ?_
  | with_reducible refine My.r_isStr ?_
  | with_reducible refine My.r_gCons ?_
  | with_reducible refine My.r_gNil ?_
  | ((with_reducible refine My.r_aug ?_); refine ⟨_, rfl, ?_⟩)
  | with_reducible refine My.r_ip ?_
  | with_reducible refine My.r_bits ?_)
local macro_rules | `(tactic| walk_at "rdg") => `(tactic| (repeat (first | walk_at "rd1" | walk_at "rd2")))

namespace My
open PySem L2
section
variable {σ : L2.St} {H : Hp} {Q : VK} {v x y : V} {te ta to ti td ty tk tv : TE} {K : PySem.W.Frag}
theorem r_disp {trs : List (TE × TE)} (q : ∀ p, H p = none → tPairs trs σ (upd H p (.dK [])) fun ps H2 => H2 p = some (.dK []) ∧ ∃ kvs : List (Key × V), ps = kvs.map (fun kv => (kV kv.1, kv.2)) ∧ kvs.length ≤ 15 ∧ Q (.ref p) (upd H2 p (.dK (mergeK [] kvs)))) : tDisp trs σ H Q := q
theorem r_pair {r : List (TE × TE)} {QP : List (V × V) → Hp → Prop} (q : tk σ H fun x H1 => tv σ H1 fun y H2 => tPairs r σ H2 fun ps H3 => QP ((x, y) :: ps) H3) : tPairs ((tk, tv) :: r) σ H QP := q
theorem r_pair0 {QP : List (V × V) → Hp → Prop} (q : QP [] H) : tPairs [] σ H QP := q
theorem r_dget (q : td σ H fun x H1 => ty σ H1 fun y H2 => ∃ a v, x = .ref a ∧ DGet H2 a y (some v) ∧ Q v H2) : tDGet td ty σ H Q := q
theorem r_din (q : ty σ H fun y H1 => td σ H1 fun x H2 => ∃ a o, x = .ref a ∧ DGet H2 a y o ∧ Q (.bl o.isSome) H2) : tDIn ty td σ H Q := q
theorem Same.dict {H : Hp} {p : Addr} {o1 o2 : HO} (h : H p = none) : Same H (upd (upd H p o1) p o2) := fun b o e => by
  rw [upd_ne (ne_of_none e h), upd_ne (ne_of_none e h)]
  exact e
end
end My

local macro_rules | `(tactic| walk_at "rd3") => `(tactic| first
  | with_reducible refine My.r_pair ?_
  | with_reducible refine My.r_pair0 ?_
  | with_reducible refine My.r_dget ?_
  | with_reducible refine My.r_din ?_)
local macro_rules | `(tactic| walk_at "rdh") => `(tactic| (repeat (first | walk_at "rd1" | walk_at "rd2" | walk_at "rd3")))

namespace My
open PySem L2
section
variable {σ : L2.St} {H : Hp} {Q : VK} {v x y : V} {te ta to ti : TE} {tr : TA} {K : PySem.W.Frag} {nx : L2.St → Hp → Prop} {rt : VK} {bk ct : L2.St → Hp → Prop}
theorem r_lcL {tl : TE} {g : TG} {tt : TT} {vs : List Nat} (q : tl σ H fun x H1 => ∃ a, x = .ref a ∧ (∃ xs, SqL K H1 a xs) ∧ ∀ D, H1 D = none → ∃ W : Nat → Nat → Hp → Prop, (∃ m, W 0 m (upd H1 D (.lst []))) ∧ ∀ i m H, W i m H →
    ((Itl K a).stop i H ∧ Q (.ref D) H) ∨ ((Itl K a).go i H ∧ ∃ Nx : Hp → Prop, (∀ H', Nx H' → ∃ m', m' < m ∧ W (i + 1) m' H') ∧ ∀ x H', (Itl K a).yld i H x H' → g x (wipe σ vs) H' fun σ2 H2 => wipe σ2 vs = wipe σ vs ∧ tt σ2 H2 fun b H3 =>
      if b = true then te σ2 H3 fun y H4 => ∃ acc, H4 D = some (.lst acc) ∧ acc.length < sizeLine ∧ Nx (upd H4 D (.lst (acc ++ [y]))) else Nx H3)) : tLc (iList K tl) g tt te vs σ H Q := q
theorem r_forL {tl : TE} {g : TG} {tb : TS} {D : Ends} (q : tl σ H fun x H1 => ∃ a, x = .ref a ∧ (∃ xs, SqL K H1 a xs) ∧ ∃ W : Nat → Nat → L2.St → Hp → Prop, (∃ m, W 0 m σ H1) ∧ ∀ i m σ H, W i m σ H →
    ((Itl K a).stop i H ∧ D.nx σ H) ∨ ((Itl K a).go i H ∧ ∃ N : L2.St → Hp → Prop, (∀ σ' H', N σ' H' → ∃ m', m' < m ∧ W (i + 1) m' σ' H') ∧ ∀ x H', (Itl K a).yld i H x H' → g x σ H' fun σ2 H2 => tb { D with nx := N, ct := N, bk := D.nx } σ2 H2)) : tFor (iList K tl) g tb D σ H := q
theorem r_cat {l b : Addr} {xs zs : List V} (h1 : H l = some (.lst xs)) (h2 : H b = some (.lst zs)) (n : xs.length + zs.length ≤ 100000) (q : ∀ p, H p = none → Q (.ref p) (upd H p (.lst (xs ++ zs)))) : rCat (.ref l) (.ref b) H Q := ⟨l, b, xs, zs, rfl, rfl, h1, h2, Nat.le_trans n (by decide), q⟩
theorem r_iteR {A B : Prop} {k : Bool} (b : B) (h : k = true → B → A) : if k = true then A else B := by
  cases k with
  | true => exact h rfl b
  | false => exact b
theorem r_inAny {t : Addr} {xs : List V} {b : Bool} {n : Bool} (h : H t = some (.tup xs)) (f : flatV x = true) (fs : xs.all flatV = true) (e : inV x xs = b) (q : Q (.bl (if n then !b else b)) H) : rIn K n x (.ref t) H Q := ⟨t, xs, rfl, .inr (SqT.of h), f, fs, by
  subst e
  cases n <;> exact q⟩
end
end My
namespace My
open PySem L2
theorem r_cut {t u : TS} {σ : L2.St} {H : Hp} {nx : L2.St → Hp → Prop} {rt : VK} {bk ct : L2.St → Hp → Prop} (Mid : L2.St → Hp → Prop) (h1 : t ⟨Mid, rt, bk, ct⟩ σ H) (h2 : ∀ σ' H', Mid σ' H' → u ⟨nx, rt, bk, ct⟩ σ' H') : C8.tCut t u ⟨nx, rt, bk, ct⟩ σ H := ⟨Mid, h1, h2⟩
end My

namespace My
open PySem L2
def top (i : Nat) : Stmt := PySem.Challenge.pw_figuretexts_k85_whole_rounding_by_all_wa.main.body.getD i (.Pass ⟨0, 0, 0, 0⟩)
abbrev s_Number_init : Stmt := inClass (top 4) 0
theorem sc_Number_init : FnScope ["self", "top", "bottom", "common"] ["self", "top", "bottom"] (defScope s_Number_init) := ⟨rfl, rfl, rfl, by decide +kernel, rfl, by decide +kernel, by decide +kernel⟩
abbrev s_Number_eq : Stmt := inClass (top 4) 1
theorem sc_Number_eq : FnScope ["self", "other"] ["self", "other"] (defScope s_Number_eq) := ⟨rfl, rfl, rfl, by decide +kernel, rfl, by decide +kernel, by decide +kernel⟩
abbrev s_Number_more : Stmt := inClass (top 4) 4
theorem sc_Number_more : FnScope ["self", "other"] ["self", "other"] (defScope s_Number_more) := ⟨rfl, rfl, rfl, by decide +kernel, rfl, by decide +kernel, by decide +kernel⟩
abbrev s_Number_less : Stmt := inClass (top 4) 5
theorem sc_Number_less : FnScope ["self", "other"] ["self", "other"] (defScope s_Number_less) := ⟨rfl, rfl, rfl, by decide +kernel, rfl, by decide +kernel, by decide +kernel⟩
abbrev s_Number_times : Stmt := inClass (top 4) 6
theorem sc_Number_times : FnScope ["self", "other"] ["self", "other"] (defScope s_Number_times) := ⟨rfl, rfl, rfl, by decide +kernel, rfl, by decide +kernel, by decide +kernel⟩
abbrev s_Number_over : Stmt := inClass (top 4) 7
theorem sc_Number_over : FnScope ["self", "other"] ["self", "other"] (defScope s_Number_over) := ⟨rfl, rfl, rfl, by decide +kernel, rfl, by decide +kernel, by decide +kernel⟩
abbrev s_Number_below : Stmt := inClass (top 4) 8
theorem sc_Number_below : FnScope ["self", "other"] ["self", "other"] (defScope s_Number_below) := ⟨rfl, rfl, rfl, by decide +kernel, rfl, by decide +kernel, by decide +kernel⟩
abbrev s_Number_size : Stmt := inClass (top 4) 9
theorem sc_Number_size : FnScope ["self"] ["self"] (defScope s_Number_size) := ⟨rfl, rfl, rfl, by decide +kernel, rfl, by decide +kernel, by decide +kernel⟩
abbrev s_Number_floor : Stmt := inClass (top 4) 10
theorem sc_Number_floor : FnScope ["self"] ["self"] (defScope s_Number_floor) := ⟨rfl, rfl, rfl, by decide +kernel, rfl, by decide +kernel, by decide +kernel⟩
abbrev s_neighbours : Stmt := top 8
theorem sc_neighbours : FnScope ["number", "step", "low", "high", "_"] ["number", "step"] (defScope s_neighbours) := ⟨rfl, rfl, rfl, by decide +kernel, rfl, by decide +kernel, by decide +kernel⟩
abbrev s_rounded : Stmt := top 9
theorem sc_rounded : FnScope ["number", "step", "way", "taken"] ["number", "step", "way"] (defScope s_rounded) := ⟨rfl, rfl, rfl, by decide +kernel, rfl, by decide +kernel, by decide +kernel⟩
abbrev s_round_paper : Stmt := top 10
theorem sc_round_paper : FnScope ["number", "step", "way", "low", "high", "part", "rule"] ["number", "step", "way"] (defScope s_round_paper) := ⟨rfl, rfl, rfl, by decide +kernel, rfl, by decide +kernel, by decide +kernel⟩
abbrev s_place_of : Stmt := top 11
theorem sc_place_of : FnScope ["number", "step", "steps", "low", "part", "high"] ["number", "step"] (defScope s_place_of) := ⟨rfl, rfl, rfl, by decide +kernel, rfl, by decide +kernel, by decide +kernel⟩
abbrev s_by_up : Stmt := top 12
theorem sc_by_up : FnScope ["low", "part"] ["low", "part"] (defScope s_by_up) := ⟨rfl, rfl, rfl, by decide +kernel, rfl, by decide +kernel, by decide +kernel⟩
abbrev s_by_down : Stmt := top 13
theorem sc_by_down : FnScope ["low", "part"] ["low", "part"] (defScope s_by_down) := ⟨rfl, rfl, rfl, by decide +kernel, rfl, by decide +kernel, by decide +kernel⟩
abbrev s_by_high : Stmt := top 14
theorem sc_by_high : FnScope ["low", "part"] ["low", "part"] (defScope s_by_high) := ⟨rfl, rfl, rfl, by decide +kernel, rfl, by decide +kernel, by decide +kernel⟩
abbrev s_by_low : Stmt := top 15
theorem sc_by_low : FnScope ["low", "part"] ["low", "part"] (defScope s_by_low) := ⟨rfl, rfl, rfl, by decide +kernel, rfl, by decide +kernel, by decide +kernel⟩
abbrev s_by_half_up : Stmt := top 16
theorem sc_by_half_up : FnScope ["low", "part"] ["low", "part"] (defScope s_by_half_up) := ⟨rfl, rfl, rfl, by decide +kernel, rfl, by decide +kernel, by decide +kernel⟩
abbrev s_by_half_down : Stmt := top 17
theorem sc_by_half_down : FnScope ["low", "part"] ["low", "part"] (defScope s_by_half_down) := ⟨rfl, rfl, rfl, by decide +kernel, rfl, by decide +kernel, by decide +kernel⟩
abbrev s_by_half_even : Stmt := top 18
theorem sc_by_half_even : FnScope ["low", "part"] ["low", "part"] (defScope s_by_half_even) := ⟨rfl, rfl, rfl, by decide +kernel, rfl, by decide +kernel, by decide +kernel⟩
abbrev s_by_half_odd : Stmt := top 19
theorem sc_by_half_odd : FnScope ["low", "part"] ["low", "part"] (defScope s_by_half_odd) := ⟨rfl, rfl, rfl, by decide +kernel, rfl, by decide +kernel, by decide +kernel⟩
abbrev s_nearer : Stmt := top 20
theorem sc_nearer : FnScope ["part", "at_half", "doubled"] ["part", "at_half"] (defScope s_nearer) := ⟨rfl, rfl, rfl, by decide +kernel, rfl, by decide +kernel, by decide +kernel⟩
abbrev s_l_deck : Stmt := top 23
theorem sc_l_deck : FnScope ["_law_script", "_law_cells", "_law_seed", "_law_cell"] ["_law_script"] (defScope s_l_deck) := ⟨rfl, rfl, rfl, by decide +kernel, rfl, by decide +kernel, by decide +kernel⟩
abbrev s_l_draw : Stmt := top 24
theorem sc_l_draw : FnScope ["_law_deck_here", "_law_ways", "_law_cell", "_law_number"] ["_law_deck_here", "_law_ways"] (defScope s_l_draw) := ⟨rfl, rfl, rfl, by decide +kernel, rfl, by decide +kernel, by decide +kernel⟩
abbrev s_l_grain : Stmt := top 25
theorem sc_l_grain : FnScope ["_law_deck_here", "_law_tens", "_law_some"] ["_law_deck_here"] (defScope s_l_grain) := ⟨rfl, rfl, rfl, by decide +kernel, rfl, by decide +kernel, by decide +kernel⟩
abbrev s_l_near : Stmt := top 26
theorem sc_l_near : FnScope ["_law_deck_here", "_law_grain_here", "_law_some", "_law_count", "_law_pieces", "_law_half", "_law_rest"] ["_law_deck_here", "_law_grain_here"] (defScope s_l_near) := ⟨rfl, rfl, rfl, by decide +kernel, rfl, by decide +kernel, by decide +kernel⟩
abbrev s_l_function : Stmt := top 27
theorem sc_l_function : FnScope ["_law_rule", "_law_told"] ["_law_rule"] (defScope s_l_function) := ⟨rfl, rfl, rfl, by decide +kernel, rfl, by decide +kernel, by decide +kernel⟩
abbrev s_l_one_right : Stmt := top 28
theorem sc_l_one_right : FnScope ["_law_here", "_law_unit_step", "_law_rule", "_law_more", "_law_found", "_law_lesser", "_law_greater", "_law_turned", "_law_times_great", "_law_far"] ["_law_here", "_law_unit_step", "_law_rule", "_law_more"] (defScope s_l_one_right) := ⟨rfl, rfl, rfl, by decide +kernel, rfl, by decide +kernel, by decide +kernel⟩
abbrev s_l_order_right : Stmt := top 29
theorem sc_l_order_right : FnScope ["_law_numbers", "_law_unit_step", "_law_rule", "_law_rows", "_law_here", "_law_other", "_law_place", "_law_spot", "_law_one", "_law_two"] ["_law_numbers", "_law_unit_step", "_law_rule"] (defScope s_l_order_right) := ⟨rfl, rfl, rfl, by decide +kernel, rfl, by decide +kernel, by decide +kernel⟩
abbrev s_law : Stmt := top 30
theorem sc_law : FnScope ["_law_script", "_law_deck_here", "_law_turn", "_law_grain_here", "_law_more", "_law_unit_step", "_law_numbers", "_law_k", "_law_top", "_law_bottom", "_law_rule", "_law_here"] ["_law_script"] (defScope s_law) := ⟨rfl, rfl, rfl, by decide +kernel, rfl, by decide +kernel, by decide +kernel⟩
structure Txt (w : World) (K : PySem.W.Frag) (mg : Str → Option Value) where
  C_Number : Addr
  m_Number : mg "Number" = some (.ref C_Number)
  c_Number : Cls K C_Number
  n_Number_top : NoAttr K C_Number "top"
  n_Number_bottom : NoAttr K C_Number "bottom"
  ty_Number_c : PySem.W.findIn K (.ref C_Number) "__class__" = some (some (.builtin "object.__class__"))
  ty_Number_g : PySem.W.specialIn K (.builtin "object.__class__") "__get__" = some (some (.builtin "getset_descriptor.__get__"))
  ty_Number_t : PySem.W.takesIn K (.builtin "object.__class__") = some true
  ty_Number_m : PySem.W.mroIn K C_Number (.type "object") = some true
  ty_Number_k : PySem.W.kitOne K (.ref C_Number) (.ref C_Number) = some true
  ne_Number : PySem.W.findIn K (.ref C_Number) "__ne__" = some (some (.builtin "object.__ne__"))
  f_Number_init : Addr
  fd_Number_init : FuncData
  F_Number_init : FunD K "__init__" "Number.__init__" (defArgs s_Number_init) (defBody s_Number_init) (defScope s_Number_init) [V.int 1] [] f_Number_init fd_Number_init
  mk_Number : Mk K C_Number f_Number_init
  b_Number_init2 : Binds K fd_Number_init ["self", "top", "bottom"] []
  ds_Number_init1 : List Value
  d_Number_init1 : Vals [V.int 1] ds_Number_init1
  b_Number_init1 : Binds K fd_Number_init ["self", "top", "bottom"] ds_Number_init1
  f_Number_eq : Addr
  fd_Number_eq : FuncData
  F_Number_eq : Fun K "__eq__" "Number.__eq__" s_Number_eq f_Number_eq fd_Number_eq
  me_Number_eq : Meth K C_Number "__eq__" f_Number_eq
  b_Number_eq : Binds K fd_Number_eq ["self", "other"] []
  f_Number_more : Addr
  fd_Number_more : FuncData
  F_Number_more : Fun K "more" "Number.more" s_Number_more f_Number_more fd_Number_more
  me_Number_more : Meth K C_Number "more" f_Number_more
  b_Number_more : Binds K fd_Number_more ["self", "other"] []
  f_Number_less : Addr
  fd_Number_less : FuncData
  F_Number_less : Fun K "less" "Number.less" s_Number_less f_Number_less fd_Number_less
  me_Number_less : Meth K C_Number "less" f_Number_less
  b_Number_less : Binds K fd_Number_less ["self", "other"] []
  f_Number_times : Addr
  fd_Number_times : FuncData
  F_Number_times : Fun K "times" "Number.times" s_Number_times f_Number_times fd_Number_times
  me_Number_times : Meth K C_Number "times" f_Number_times
  b_Number_times : Binds K fd_Number_times ["self", "other"] []
  f_Number_over : Addr
  fd_Number_over : FuncData
  F_Number_over : Fun K "over" "Number.over" s_Number_over f_Number_over fd_Number_over
  me_Number_over : Meth K C_Number "over" f_Number_over
  b_Number_over : Binds K fd_Number_over ["self", "other"] []
  f_Number_below : Addr
  fd_Number_below : FuncData
  F_Number_below : Fun K "below" "Number.below" s_Number_below f_Number_below fd_Number_below
  me_Number_below : Meth K C_Number "below" f_Number_below
  b_Number_below : Binds K fd_Number_below ["self", "other"] []
  f_Number_size : Addr
  fd_Number_size : FuncData
  F_Number_size : Fun K "size" "Number.size" s_Number_size f_Number_size fd_Number_size
  me_Number_size : Meth K C_Number "size" f_Number_size
  b_Number_size : Binds K fd_Number_size ["self"] []
  f_Number_floor : Addr
  fd_Number_floor : FuncData
  F_Number_floor : Fun K "floor" "Number.floor" s_Number_floor f_Number_floor fd_Number_floor
  me_Number_floor : Meth K C_Number "floor" f_Number_floor
  b_Number_floor : Binds K fd_Number_floor ["self"] []
  f_neighbours : Addr
  fd_neighbours : FuncData
  F_neighbours : Fun K "neighbours" "neighbours" s_neighbours f_neighbours fd_neighbours
  m_neighbours : mg "neighbours" = some (.ref f_neighbours)
  b_neighbours : Binds K fd_neighbours ["number", "step"] []
  f_rounded : Addr
  fd_rounded : FuncData
  F_rounded : FunD K "rounded" "rounded" (defArgs s_rounded) (defBody s_rounded) (defScope s_rounded) [] [(("way" : Str), V.str "half even")] f_rounded fd_rounded
  m_rounded : mg "rounded" = some (.ref f_rounded)
  kb_rounded : KBn K fd_rounded ["number", "step", "way"] 2 ["way"] (fun us ws => us ++ ws) (fun vs zs => vs ++ zs)
  ds_rounded : List Value
  d_rounded : Vals [V.str "half even"] ds_rounded
  b_rounded : Binds K fd_rounded ["number", "step", "way"] ds_rounded
  f_round_paper : Addr
  fd_round_paper : FuncData
  F_round_paper : FunD K "round_paper" "round_paper" (defArgs s_round_paper) (defBody s_round_paper) (defScope s_round_paper) [] [(("way" : Str), V.str "half even")] f_round_paper fd_round_paper
  m_round_paper : mg "round_paper" = some (.ref f_round_paper)
  kb_round_paper : KBn K fd_round_paper ["number", "step", "way"] 2 ["way"] (fun us ws => us ++ ws) (fun vs zs => vs ++ zs)
  ds_round_paper : List Value
  d_round_paper : Vals [V.str "half even"] ds_round_paper
  b_round_paper : Binds K fd_round_paper ["number", "step", "way"] ds_round_paper
  f_place_of : Addr
  fd_place_of : FuncData
  F_place_of : Fun K "place_of" "place_of" s_place_of f_place_of fd_place_of
  m_place_of : mg "place_of" = some (.ref f_place_of)
  b_place_of : Binds K fd_place_of ["number", "step"] []
  f_by_up : Addr
  fd_by_up : FuncData
  F_by_up : Fun K "_by_up" "_by_up" s_by_up f_by_up fd_by_up
  m_by_up : mg "_by_up" = some (.ref f_by_up)
  b_by_up : Binds K fd_by_up ["low", "part"] []
  f_by_down : Addr
  fd_by_down : FuncData
  F_by_down : Fun K "_by_down" "_by_down" s_by_down f_by_down fd_by_down
  m_by_down : mg "_by_down" = some (.ref f_by_down)
  b_by_down : Binds K fd_by_down ["low", "part"] []
  f_by_high : Addr
  fd_by_high : FuncData
  F_by_high : Fun K "_by_high" "_by_high" s_by_high f_by_high fd_by_high
  m_by_high : mg "_by_high" = some (.ref f_by_high)
  b_by_high : Binds K fd_by_high ["low", "part"] []
  f_by_low : Addr
  fd_by_low : FuncData
  F_by_low : Fun K "_by_low" "_by_low" s_by_low f_by_low fd_by_low
  m_by_low : mg "_by_low" = some (.ref f_by_low)
  b_by_low : Binds K fd_by_low ["low", "part"] []
  f_by_half_up : Addr
  fd_by_half_up : FuncData
  F_by_half_up : Fun K "_by_half_up" "_by_half_up" s_by_half_up f_by_half_up fd_by_half_up
  m_by_half_up : mg "_by_half_up" = some (.ref f_by_half_up)
  b_by_half_up : Binds K fd_by_half_up ["low", "part"] []
  f_by_half_down : Addr
  fd_by_half_down : FuncData
  F_by_half_down : Fun K "_by_half_down" "_by_half_down" s_by_half_down f_by_half_down fd_by_half_down
  m_by_half_down : mg "_by_half_down" = some (.ref f_by_half_down)
  b_by_half_down : Binds K fd_by_half_down ["low", "part"] []
  f_by_half_even : Addr
  fd_by_half_even : FuncData
  F_by_half_even : Fun K "_by_half_even" "_by_half_even" s_by_half_even f_by_half_even fd_by_half_even
  m_by_half_even : mg "_by_half_even" = some (.ref f_by_half_even)
  b_by_half_even : Binds K fd_by_half_even ["low", "part"] []
  f_by_half_odd : Addr
  fd_by_half_odd : FuncData
  F_by_half_odd : Fun K "_by_half_odd" "_by_half_odd" s_by_half_odd f_by_half_odd fd_by_half_odd
  m_by_half_odd : mg "_by_half_odd" = some (.ref f_by_half_odd)
  b_by_half_odd : Binds K fd_by_half_odd ["low", "part"] []
  f_nearer : Addr
  fd_nearer : FuncData
  F_nearer : Fun K "_nearer" "_nearer" s_nearer f_nearer fd_nearer
  m_nearer : mg "_nearer" = some (.ref f_nearer)
  b_nearer : Binds K fd_nearer ["part", "at_half"] []
  f_l_deck : Addr
  fd_l_deck : FuncData
  F_l_deck : Fun K "_law_deck" "_law_deck" s_l_deck f_l_deck fd_l_deck
  m_l_deck : mg "_law_deck" = some (.ref f_l_deck)
  b_l_deck : Binds K fd_l_deck ["_law_script"] []
  f_l_draw : Addr
  fd_l_draw : FuncData
  F_l_draw : Fun K "_law_draw" "_law_draw" s_l_draw f_l_draw fd_l_draw
  m_l_draw : mg "_law_draw" = some (.ref f_l_draw)
  b_l_draw : Binds K fd_l_draw ["_law_deck_here", "_law_ways"] []
  f_l_grain : Addr
  fd_l_grain : FuncData
  F_l_grain : Fun K "_law_grain" "_law_grain" s_l_grain f_l_grain fd_l_grain
  m_l_grain : mg "_law_grain" = some (.ref f_l_grain)
  b_l_grain : Binds K fd_l_grain ["_law_deck_here"] []
  f_l_near : Addr
  fd_l_near : FuncData
  F_l_near : Fun K "_law_near" "_law_near" s_l_near f_l_near fd_l_near
  m_l_near : mg "_law_near" = some (.ref f_l_near)
  b_l_near : Binds K fd_l_near ["_law_deck_here", "_law_grain_here"] []
  f_l_function : Addr
  fd_l_function : FuncData
  F_l_function : Fun K "_law_function" "_law_function" s_l_function f_l_function fd_l_function
  m_l_function : mg "_law_function" = some (.ref f_l_function)
  b_l_function : Binds K fd_l_function ["_law_rule"] []
  f_l_one_right : Addr
  fd_l_one_right : FuncData
  F_l_one_right : Fun K "_law_one_right" "_law_one_right" s_l_one_right f_l_one_right fd_l_one_right
  m_l_one_right : mg "_law_one_right" = some (.ref f_l_one_right)
  b_l_one_right : Binds K fd_l_one_right ["_law_here", "_law_unit_step", "_law_rule", "_law_more"] []
  f_l_order_right : Addr
  fd_l_order_right : FuncData
  F_l_order_right : Fun K "_law_order_right" "_law_order_right" s_l_order_right f_l_order_right fd_l_order_right
  m_l_order_right : mg "_law_order_right" = some (.ref f_l_order_right)
  b_l_order_right : Binds K fd_l_order_right ["_law_numbers", "_law_unit_step", "_law_rule"] []
  f_law : Addr
  fd_law : FuncData
  F_law : Fun K "law" "law" s_law f_law fd_law
  m_law : mg "law" = some (.ref f_law)
  b_law : Binds K fd_law ["_law_script"] []
  cc_M : Addr
  tt_M : Addr
  lk_M : ∃ (oc dV kV doc pm ct : Value) (od an : Option Addr) (osl : Array (Option Value)), fd_l_function = PySem.W.fnOf "_law_function" "_law_function" (defArgs s_l_function) (defBody s_l_function) (defScope s_l_function) dV kV doc pm an (.ref cc_M) ct ∧ K.lookup f_l_function = some ⟨oc, od, .func fd_l_function, osl⟩ ∧ PySem.W.codeIn K (.ref cc_M) "_law_function" = true
  mk_M : MakerK K mg "_law_function" cc_M tt_M
  m_gcd : mg "gcd" = some (.builtin "math.gcd")
  n_range : mg "range" = none
  n_isinstance : mg "isinstance" = none
  n_str : mg "str" = none
  n_list : mg "list" = none
  n_len : mg "len" = none
  n_abs : mg "abs" = none
  n_max : mg "max" = none
  A_WAYS : Addr
  m_WAYS : mg "WAYS" = some (.ref A_WAYS)
  t_WAYS : ∀ H : Hp, SqT K H A_WAYS [.str "up", .str "down", .str "high", .str "low", .str "half up", .str "half down", .str "half even", .str "half odd"]
  D_RULES : Addr
  m_RULES : mg "RULES" = some (.ref D_RULES)
  es_RULES : Array DictEntry
  en_RULES : Nat
  l_RULES : K.lookup D_RULES = some ⟨.type "dict", none, .dict es_RULES en_RULES, #[]⟩
  k_RULES : PySem.W.KeysLit w.params es_RULES.toList
  rule_by_up : PySem.W.nsIn K D_RULES "up" = some (some (.ref f_by_up))
  rule_by_down : PySem.W.nsIn K D_RULES "down" = some (some (.ref f_by_down))
  rule_by_high : PySem.W.nsIn K D_RULES "high" = some (some (.ref f_by_high))
  rule_by_low : PySem.W.nsIn K D_RULES "low" = some (some (.ref f_by_low))
  rule_by_half_up : PySem.W.nsIn K D_RULES "half up" = some (some (.ref f_by_half_up))
  rule_by_half_down : PySem.W.nsIn K D_RULES "half down" = some (some (.ref f_by_half_down))
  rule_by_half_even : PySem.W.nsIn K D_RULES "half even" = some (some (.ref f_by_half_even))
  rule_by_half_odd : PySem.W.nsIn K D_RULES "half odd" = some (some (.ref f_by_half_odd))

section
variable {P : Program} {w : World} {K : PySem.W.Frag} {mg : Str → Option Value} {base : Heap}
/-! ### Number -/
def nf (q : Rat) : List (Str × V) := [("top", .int q.num), ("bottom", .int (q.den : Int))]
theorem tb_ : ¬ (("top" : Str) = "bottom") := by decide +kernel
theorem bt_ : ¬ (("bottom" : Str) = "top") := by decide +kernel
theorem nf_put (a b : Int) : putF "bottom" (.int b) (putF "top" (.int a) []) = ([("top", V.int a), ("bottom", V.int b)] : List (Str × V)) := by
  show (if ("top" : Str) = "bottom" then [(("top" : Str), V.int b)] else (("top" : Str), V.int a) :: putF "bottom" (V.int b) []) = ([("top", V.int a), ("bottom", V.int b)] : List (Str × V))
  rw [if_neg tb_]
  all_goals rfl
theorem nf_top (q : Rat) : (nf q).lookup ("top" : Str) = some (.int q.num) := by
  have e : (("top" : Str) == "top") = true := by decide +kernel
  unfold nf
  simp only [List.lookup, e]
theorem nf_bottom (q : Rat) : (nf q).lookup ("bottom" : Str) = some (.int (q.den : Int)) := by
  have e : (("bottom" : Str) == "top") = false := by decide +kernel
  have e' : (("bottom" : Str) == "bottom") = true := by decide +kernel
  unfold nf
  simp only [List.lookup, e, e']
theorem nf_no (q : Rat) {m : Str} (h1 : (m == "top") = false) (h2 : (m == "bottom") = false) : (nf q).lookup m = none := by
  unfold nf
  simp only [List.lookup, h1, h2]
/-- the Number q stands at p -/
def NumAt (C : Addr) (H : Hp) (p : Addr) (q : Rat) : Prop := ∃ dx, H p = some (.ins C dx (nf q))
theorem NumAt.same {C : Addr} {H H' : Hp} {p : Addr} {q : Rat} (s : Same H H') (h : NumAt C H p q) : NumAt C H' p q := let ⟨dx, e⟩ := h; ⟨dx, s _ _ e⟩

def spInit (C : Addr) : Sp := fun vs H Q _ => ∃ (p dx : Addr) (t b : Int), vs = [.ref p, .int t, .int b] ∧ H p = some (.ins C dx []) ∧ b ≠ 0 ∧ b.natAbs < 2 ^ 9000 ∧ Q .non (upd H p (.ins C dx (nf (Rat.divInt t b))))
theorem ok_Number_init (T : Txt w K mg) : FnOk P w K mg base CX0 1 T.f_Number_init T.fd_Number_init ["self", "top", "bottom"] (spInit T.C_Number) := by
  refine T.F_Number_init.ok sc_Number_init (fun vs H Q E h => ?_) (fun cdv A outer s H vs Q E hr h => ?_)
  · obtain ⟨p, dx, t, b, rfl, _⟩ := h
    rfl
  · obtain ⟨p, dx, t, b, rfl, hp, hb, hl, k⟩ := h
    refine ⟨_, (pss_cons (ps_if (pt_cmpR op_eq (pv 2) pe_int (nomark _))
  (pss_one ps_never)
  pss_nil)
 (pss_cons (ps_set (i := 3) sc_Number_init.nd rfl (Or.inl rfl) (pe_callBfun cr_gcd (by rfl) T.m_gcd (pa_cons (pv 1) (pa_cons (pv 2) pa_nil))))
 (pss_cons (ps_if (pt_cmpR op_lt (pv 2) pe_int (nomark _))
  (pss_one (ps_set (i := 3) sc_Number_init.nd rfl (Or.inl rfl) (pe_un un_neg (pv 3))))
  pss_nil)
 (pss_cons (ps_fld (pv 0) (pe_op op_fdivA (pv 1) (pv 3)) rfl)
 (pss_one (ps_fld (pv 0) (pe_op op_fdivA (pv 2) (pv 3)) rfl)))))), ?_⟩
    walk_at "rd"
    refine r_iteF (decide_eq_false hb) ?_
    walk_at "rd"
    refine ⟨_, _, rfl, ?_⟩
    have fin : ∀ c : Int, c = cdiv t b → sFld K (tVar 0) (tOp (rI CDivA fun i j => .int (i.fdiv j)) (tVar 1) (tVar 3)) "top" ⟨sFld K (tVar 0) (tOp (rI CDivA fun i j => .int (i.fdiv j)) (tVar 2) (tVar 3)) "bottom" ⟨fun _ H' => Q .non H', Q, fun _ _ => False, fun _ _ => False⟩, Q, fun _ _ => False, fun _ _ => False⟩ [some (.ref p), some (.int t), some (.int b), some (.int c)] H := by
      rintro c rfl
      have hg := gcd_pos (t := t) hb
      have hc : CDivA t (cdiv t b) ∧ CDivA b (cdiv t b) := by
        have n0 : cdiv t b ≠ 0 := by unfold cdiv; split <;> omega
        have nb : (cdiv t b).natAbs < 2 ^ 9000 := by
          have le : Nat.gcd t.natAbs b.natAbs ≤ b.natAbs := Nat.le_of_dvd (by omega) (Nat.gcd_dvd_right _ _)
          have e : (cdiv t b).natAbs = Nat.gcd t.natAbs b.natAbs := by unfold cdiv; split <;> omega
          rw [e]
          exact Nat.lt_of_le_of_lt le hl
        exact ⟨cdivA n0 nb (by decide) (Nat.le_refl _), cdivA n0 nb (by decide) (Nat.le_refl _)⟩
      walk_at "rd"
      refine r_I hc.1 ?_
      walk_at "rd"
      refine ⟨p, T.C_Number, dx, [], rfl, hp, T.c_Number, T.n_Number_top, (by show 0 < 1000; decide), ?_⟩
      walk_at "rd"
      refine r_I hc.2 ?_
      walk_at "rd"
      refine ⟨p, T.C_Number, dx, _, rfl, upd_same, T.c_Number, T.n_Number_bottom, (by show 1 < 1000; decide), ?_⟩
      show Q .non (upd (upd H p _) p (.ins T.C_Number dx (putF "bottom" _ (putF "top" _ []))))
      rw [upd_upd, nf_put, num_of hb, den_of hb]
      exact k
    walk_at "rd"
    refine r_ite (fun hn => ?_) (fun hn => ?_)
    · iterate 5 walk_at "rd1"
      refine fin _ ?_
      unfold cdiv
      rw [if_pos (of_decide_eq_true hn)]
    · iterate 1 walk_at "rd1"
      refine fin _ ?_
      unfold cdiv
      rw [if_neg (of_decide_eq_false hn)]
end
end My
local macro_rules | `(tactic| walk_at "fld") => `(tactic| refine My.r_fld (by assumption) (by assumption) (by assumption) (by first | exact My.nf_top _ | exact My.nf_bottom _) ?_)
local macro_rules | `(tactic| walk_at "rdf") => `(tactic| (repeat (first | walk_at "rd1" | walk_at "fld")))


namespace My
open PySem L2
section
variable {P : Program} {w : World} {K : PySem.W.Frag} {mg : Str → Option Value} {base : Heap}
/-- a Number made at once -/
theorem mk_num {C : Addr} {H : Hp} {t b : Int} {R : Addr → Hp → Prop} {E : XK} (hb : b ≠ 0) (hl : b.natAbs < 2 ^ 9000) (q : ∀ (p : Addr) (H' : Hp), Same H H' → H p = none → NumAt C H' p (Rat.divInt t b) → R p H') :
    ∀ x dx, H x = none → H dx = none → dx ≠ x → spInit C (.ref x :: ([V.int t, V.int b] ++ [])) (upd (upd H dx (.own x)) x (.ins C dx [])) (fun v H2 => v = .non ∧ R x H2) E := by
  intro x dx nx ndx ne
  refine ⟨x, dx, t, b, rfl, upd_same, hb, hl, rfl, q x _ (fun y o e => ?_) nx ⟨dx, upd_same⟩⟩
  rw [upd_ne (ne_of_none e nx), upd_ne (ne_of_none e nx), upd_ne (ne_of_none e ndx)]
  exact e
theorem mk_num1 {C : Addr} {H : Hp} {t : Int} {R : Addr → Hp → Prop} {E : XK} (q : ∀ (p : Addr) (H' : Hp), Same H H' → H p = none → NumAt C H' p (t : Rat) → R p H') :
    ∀ x dx, H x = none → H dx = none → dx ≠ x → spInit C (.ref x :: ([V.int t] ++ [V.int 1])) (upd (upd H dx (.own x)) x (.ins C dx [])) (fun v H2 => v = .non ∧ R x H2) E :=
  mk_num (by decide) (Nat.lt_of_lt_of_le (by decide : Int.natAbs 1 < 2 ^ 1) (Nat.pow_le_pow_right (by decide) (by decide))) fun p H' s n h => q p H' s n (divInt_one t ▸ h)
/-- two Numbers in, one out -/
def spBin (C : Addr) (f : Rat → Rat → Rat) (ok : Rat → Rat → Prop) : Sp := fun vs H Q _ => ∃ (p q : Addr) (x y : Rat), vs = [.ref p, .ref q] ∧ NumAt C H p x ∧ NumAt C H q y ∧ Bd 4000 x ∧ Bd 4000 y ∧ ok x y ∧
  ∀ (r : Addr) (H' : Hp), Same H H' → H r = none → NumAt C H' r (f x y) → Q (.ref r) H'
theorem bd_den {n : Nat} {x : Rat} (h : Bd n x) : ((x.den : Nat) : Int).natAbs < 2 ^ n := by have := h.2; omega
theorem dd_ne (x y : Rat) : (x.den : Int) * (y.den : Int) ≠ 0 := Int.mul_ne_zero (den_ne x) (den_ne y)
theorem dd_lt {x y : Rat} (hx : Bd 4000 x) (hy : Bd 4000 y) : ((x.den : Int) * (y.den : Int)).natAbs < 2 ^ 9000 := natAbs_mul_lt (bd_den hx) (bd_den hy) (by decide)
theorem cm {i j : Int} (hi : i.natAbs < 2 ^ 4000) (hj : j.natAbs < 2 ^ 4000) : CMulW i j := wide_mul hi hj (by decide) (by decide) (by decide)
theorem ok_Number_less (T : Txt w K mg) : FnOk P w K mg base CX0 3 T.f_Number_less T.fd_Number_less ["self", "other"] (spBin T.C_Number (fun x y => x - y) fun _ _ => True) := by
  refine T.F_Number_less.ok sc_Number_less (fun vs H Q E h => ?_) (fun cdv A outer s H vs Q E hr h => ?_)
  · obtain ⟨p, q, x, y, rfl, _⟩ := h
    rfl
  · obtain ⟨p, q, x, y, rfl, ⟨dx, hp⟩, ⟨dy, hq⟩, bx, by', _, k⟩ := h
    have cN := T.c_Number
    have nT := T.n_Number_top
    have nB := T.n_Number_bottom
    refine ⟨_, (pss_one (ps_ret (pe_make T.mk_Number (ok_Number_init T) (hr.mono (by decide)) (by rfl) T.m_Number T.b_Number_init2 .nil pass0 (pa_cons (pe_op op_sub (pe_op op_mulW (pe_fld (pv 0) rfl) (pe_fld (pv 1) rfl)) (pe_op op_mulW (pe_fld (pv 1) rfl) (pe_fld (pv 0) rfl))) (pa_cons (pe_op op_mulW (pe_fld (pv 0) rfl) (pe_fld (pv 1) rfl)) pa_nil))))), ?_⟩
    walk_at "rdf"
    refine r_I (cm bx.1 (bd_den by')) ?_
    walk_at "rdf"
    refine r_I (cm by'.1 (bd_den bx)) ?_
    walk_at "rdf"
    refine r_I (cm (bd_den bx) (bd_den by')) ?_
    walk_at "rdf"
    refine mk_num (dd_ne x y) (dd_lt bx by') fun r H' s n h => ?_
    rw [sub_eq] at h
    exact k r H' s n h
theorem ok_Number_times (T : Txt w K mg) : FnOk P w K mg base CX0 3 T.f_Number_times T.fd_Number_times ["self", "other"] (spBin T.C_Number (fun x y => x * y) fun _ _ => True) := by
  refine T.F_Number_times.ok sc_Number_times (fun vs H Q E h => ?_) (fun cdv A outer s H vs Q E hr h => ?_)
  · obtain ⟨p, q, x, y, rfl, _⟩ := h
    rfl
  · obtain ⟨p, q, x, y, rfl, ⟨dx, hp⟩, ⟨dy, hq⟩, bx, by', _, k⟩ := h
    have cN := T.c_Number
    have nT := T.n_Number_top
    have nB := T.n_Number_bottom
    refine ⟨_, (pss_one (ps_ret (pe_make T.mk_Number (ok_Number_init T) (hr.mono (by decide)) (by rfl) T.m_Number T.b_Number_init2 .nil pass0 (pa_cons (pe_op op_mulW (pe_fld (pv 0) rfl) (pe_fld (pv 1) rfl)) (pa_cons (pe_op op_mulW (pe_fld (pv 0) rfl) (pe_fld (pv 1) rfl)) pa_nil))))), ?_⟩
    walk_at "rdf"
    refine r_I (cm bx.1 by'.1) ?_
    walk_at "rdf"
    refine r_I (cm (bd_den bx) (bd_den by')) ?_
    walk_at "rdf"
    refine mk_num (dd_ne x y) (dd_lt bx by') fun r H' s n h => ?_
    rw [mul_eq] at h
    exact k r H' s n h
theorem ok_Number_over (T : Txt w K mg) : FnOk P w K mg base CX0 3 T.f_Number_over T.fd_Number_over ["self", "other"] (spBin T.C_Number (fun x y => x / y) fun _ y => y ≠ 0) := by
  refine T.F_Number_over.ok sc_Number_over (fun vs H Q E h => ?_) (fun cdv A outer s H vs Q E hr h => ?_)
  · obtain ⟨p, q, x, y, rfl, _⟩ := h
    rfl
  · obtain ⟨p, q, x, y, rfl, ⟨dx, hp⟩, ⟨dy, hq⟩, bx, by', y0, k⟩ := h
    have cN := T.c_Number
    have nT := T.n_Number_top
    have nB := T.n_Number_bottom
    refine ⟨_, (pss_cons (ps_if (pt_cmpR op_eq (pe_fld (pv 1) rfl) pe_int (nomark _))
  (pss_one ps_never)
  pss_nil)
 (pss_one (ps_ret (pe_make T.mk_Number (ok_Number_init T) (hr.mono (by decide)) (by rfl) T.m_Number T.b_Number_init2 .nil pass0 (pa_cons (pe_op op_mulW (pe_fld (pv 0) rfl) (pe_fld (pv 1) rfl)) (pa_cons (pe_op op_mulW (pe_fld (pv 0) rfl) (pe_fld (pv 1) rfl)) pa_nil)))))), ?_⟩
    walk_at "rdf"
    refine r_iteF (decide_eq_false (num_ne y0)) ?_
    walk_at "rdf"
    refine r_I (cm bx.1 (bd_den by')) ?_
    walk_at "rdf"
    refine r_I (cm (bd_den bx) by'.1) ?_
    walk_at "rdf"
    refine mk_num (Int.mul_ne_zero (den_ne x) (num_ne y0)) (natAbs_mul_lt (bd_den bx) by'.1 (by decide)) fun r H' s n h => ?_
    rw [div_eq] at h
    exact k r H' s n h
def spFloor (C : Addr) : Sp := fun vs H Q _ => ∃ (p : Addr) (x : Rat), vs = [.ref p] ∧ NumAt C H p x ∧ Bd 8000 x ∧ Q (.int x.floor) H
theorem ok_Number_floor (T : Txt w K mg) : FnOk P w K mg base CX0 1 T.f_Number_floor T.fd_Number_floor ["self"] (spFloor T.C_Number) := by
  refine T.F_Number_floor.ok sc_Number_floor (fun vs H Q E h => ?_) (fun cdv A outer s H vs Q E hr h => ?_)
  · obtain ⟨p, x, rfl, _⟩ := h
    rfl
  · obtain ⟨p, x, rfl, ⟨dx, hp⟩, bx, k⟩ := h
    have cN := T.c_Number
    have nT := T.n_Number_top
    have nB := T.n_Number_bottom
    refine ⟨_, (pss_one (ps_ret (pe_op op_fdivW (pe_fld (pv 0) rfl) (pe_fld (pv 0) rfl)))), ?_⟩
    walk_at "rdf"
    refine r_I (wide_div (by have := x.den_pos; omega) (bd_den bx) (by decide) (by decide)) ?_
    show Q (.int (x.num / (x.den : Int))) H
    rw [← Rat.floor_def]
    exact k
end
end My

namespace My
open PySem L2
section
variable {P : Program} {w : World} {K : PySem.W.Frag} {mg : Str → Option Value} {base : Heap}
theorem no_over (q : Rat) : (nf q).lookup ("over" : Str) = none := nf_no _ (by decide +kernel) (by decide +kernel)
theorem no_less (q : Rat) : (nf q).lookup ("less" : Str) = none := nf_no _ (by decide +kernel) (by decide +kernel)
theorem no_times (q : Rat) : (nf q).lookup ("times" : Str) = none := nf_no _ (by decide +kernel) (by decide +kernel)
theorem no_floor (q : Rat) : (nf q).lookup ("floor" : Str) = none := nf_no _ (by decide +kernel) (by decide +kernel)
def spPlace (C : Addr) : Sp := fun vs H Q _ => ∃ (p s : Addr) (x y : Rat), vs = [.ref p, .ref s] ∧ NumAt C H p x ∧ NumAt C H s y ∧ Bd 900 x ∧ Bd 900 y ∧ y ≠ 0 ∧
  ∀ (t pp : Addr) (H' : Hp), Same H H' → H' t = some (.tup [.int (x / y).floor, .int (highQ (x / y)), .ref pp]) → NumAt C H' pp (partQ (x / y)) → Q (.ref t) H'
theorem ok_place_of (T : Txt w K mg) : FnOk P w K mg base CX0 4 T.f_place_of T.fd_place_of ["number", "step"] (spPlace T.C_Number) := by
  refine T.F_place_of.ok sc_place_of (fun vs H Q E h => ?_) (fun cdv A outer s H vs Q E hr h => ?_)
  · obtain ⟨p, q, x, y, rfl, _⟩ := h
    rfl
  · obtain ⟨p, q, x, y, rfl, ⟨dx, hp⟩, ⟨dy, hq⟩, bx, by', y0, k⟩ := h
    have cN := T.c_Number
    have nT := T.n_Number_top
    have nB := T.n_Number_bottom
    have bn : Bd 1800 (x / y) := Bd.div bx by' y0
    have bf : Bd 1800 ((x / y).floor : Rat) := Bd.int (floor_bd bn) (by decide)
    refine ⟨_, (pss_cons (ps_set (i := 2) sc_place_of.nd rfl (Or.inl rfl) (pe_meth (pv 0) T.c_Number T.me_Number_over (ok_Number_over T) (hr.mono (by decide)) T.b_Number_over .nil pass0 (pa_cons (pv 1) pa_nil)))
 (pss_cons (ps_set (i := 3) sc_place_of.nd rfl (Or.inl rfl) (pe_meth0 (pv 2) T.c_Number T.me_Number_floor (ok_Number_floor T) (hr.mono (by decide)) T.b_Number_floor .nil pass0))
 (pss_cons (ps_set (i := 4) sc_place_of.nd rfl (Or.inl rfl) (pe_meth (pv 2) T.c_Number T.me_Number_less (ok_Number_less T) (hr.mono (by decide)) T.b_Number_less .nil pass0 (pa_cons (pe_make T.mk_Number (ok_Number_init T) (hr.mono (by decide)) (by rfl) T.m_Number T.b_Number_init1 T.d_Number_init1 pass0 (pa_cons (pv 3) pa_nil)) pa_nil)))
 (pss_cons (ps_set (i := 5) sc_place_of.nd rfl (Or.inl rfl) (pe_ifExp (pt_cmpR op_eq (pe_fld (pv 4) rfl) pe_int (nomark _)) (pv 3) (pe_op op_add (pv 3) pe_int)))
 (pss_one (ps_ret (pe_tup (pa_cons (pv 3) (pa_cons (pv 5) (pa_cons (pv 4) pa_nil)))))))))), ?_⟩
    walk_at "rdf"
    refine r_meth1 hp (no_over _) ?_
    walk_at "rdf"
    refine ⟨p, q, x, y, rfl, ⟨_, hp⟩, ⟨_, hq⟩, bx.mono (by decide), by'.mono (by decide), y0, fun r H1 s1 n1 h1 => ?_⟩
    obtain ⟨dr, hr1⟩ := h1
    walk_at "rdf"
    refine r_meth1 hr1 (no_floor _) ?_
    walk_at "rdf"
    refine ⟨r, x / y, rfl, ⟨_, hr1⟩, bn.mono (by decide), ?_⟩
    walk_at "rdf"
    refine r_meth1 hr1 (no_less _) ?_
    walk_at "rdf"
    refine mk_num1 fun u H2 s2 n2 h2 => ?_
    walk_at "rdf"
    refine ⟨r, u, x / y, ((x / y).floor : Rat), rfl, ⟨_, s2 _ _ hr1⟩, h2, bn.mono (by decide), bf.mono (by decide), trivial, fun pp H3 s3 n3 h3 => ?_⟩
    obtain ⟨dp, hp3⟩ := h3
    have s03 : Same H H3 := (s1.trans s2).trans s3
    walk_at "rdf"
    refine r_ite (fun e => ?_) (fun e => ?_)
    · have e' : highQ (x / y) = (x / y).floor := by
        unfold highQ
        exact if_pos (of_decide_eq_true e)
      walk_at "rdf"
      refine r_new (by show 3 ≤ 1000; decide) fun t ht => ?_
      exact k t pp _ (s03.trans (Same.new ht)) (by rw [upd_same, e']) ⟨dp, by rw [upd_ne (ne_of_none hp3 ht)]; exact hp3⟩
    · have e' : highQ (x / y) = (x / y).floor + 1 := by
        unfold highQ
        exact if_neg (of_decide_eq_false e)
      walk_at "rdf"
      refine r_new (by show 3 ≤ 1000; decide) fun t ht => ?_
      exact k t pp _ (s03.trans (Same.new ht)) (by rw [upd_same, e']) ⟨dp, by rw [upd_ne (ne_of_none hp3 ht)]; exact hp3⟩
/-! ### the ways -/
def wname : Way → Str
  | .up => "up" | .down => "down" | .high => "high" | .low => "low" | .hup => "half up" | .hdown => "half down" | .heven => "half even" | .hodd => "half odd"
def spRule (C : Addr) (r : Way) : Sp := fun vs H Q _ => ∃ (l : Int) (pp : Addr) (q : Rat), vs = [.int l, .ref pp] ∧ NumAt C H pp q ∧ Q (.bl (ruleB r l q)) H
def spNearer (C : Addr) : Sp := fun vs H Q _ => ∃ (pp : Addr) (q : Rat) (a : Bool), vs = [.ref pp, .bl a] ∧ NumAt C H pp q ∧ Q (.bl (nearerB q a)) H
theorem ok_nearer (T : Txt w K mg) : FnOk P w K mg base CX0 1 T.f_nearer T.fd_nearer ["part", "at_half"] (spNearer T.C_Number) := by
  refine T.F_nearer.ok sc_nearer (fun vs H Q E h => ?_) (fun cdv A outer s H vs Q E hr h => ?_)
  · obtain ⟨p, q, a, rfl, _⟩ := h
    rfl
  · obtain ⟨p, q, a, rfl, ⟨dx, hp⟩, k⟩ := h
    have cN := T.c_Number
    have nT := T.n_Number_top
    have nB := T.n_Number_bottom
    refine ⟨_, (pss_cons (ps_set (i := 2) sc_nearer.nd rfl (Or.inl rfl) (pe_op op_mul pe_int (pe_fld (pv 0) rfl)))
 (pss_cons (ps_if (pt_cmpR op_eq (pv 2) (pe_fld (pv 0) rfl) (nomark _))
  (pss_one (ps_ret (pv 1)))
  pss_nil)
 (pss_one (ps_ret (pe_cmpR op_gt (pv 2) (pe_fld (pv 0) rfl) (nomark _)))))), ?_⟩
    walk_at "rdf"
    unfold nearerB at k
    refine r_ite (fun e => ?_) (fun e => ?_)
    · walk_at "rdf"
      rw [if_pos (of_decide_eq_true e)] at k
      exact k
    · walk_at "rdf"
      rw [if_neg (of_decide_eq_false e)] at k
      exact k
theorem ok_by_up (T : Txt w K mg) : FnOk P w K mg base CX0 1 T.f_by_up T.fd_by_up ["low", "part"] (spRule T.C_Number .up) := by
  refine T.F_by_up.ok sc_by_up (fun vs H Q E h => ?_) (fun cdv A outer s H vs Q E hr h => ?_)
  · obtain ⟨l, pp, q, rfl, _⟩ := h
    rfl
  · obtain ⟨l, pp, q, rfl, hp, k⟩ := h
    refine ⟨_, (pss_one (ps_ret (pe_cmpR op_ge (pv 0) pe_int (nomark _)))), ?_⟩
    walk_at "rdf"
    exact k
theorem ok_by_down (T : Txt w K mg) : FnOk P w K mg base CX0 1 T.f_by_down T.fd_by_down ["low", "part"] (spRule T.C_Number .down) := by
  refine T.F_by_down.ok sc_by_down (fun vs H Q E h => ?_) (fun cdv A outer s H vs Q E hr h => ?_)
  · obtain ⟨l, pp, q, rfl, _⟩ := h
    rfl
  · obtain ⟨l, pp, q, rfl, hp, k⟩ := h
    refine ⟨_, (pss_one (ps_ret (pe_cmpR op_lt (pv 0) pe_int (nomark _)))), ?_⟩
    walk_at "rdf"
    exact k
theorem ok_by_high (T : Txt w K mg) : FnOk P w K mg base CX0 1 T.f_by_high T.fd_by_high ["low", "part"] (spRule T.C_Number .high) := by
  refine T.F_by_high.ok sc_by_high (fun vs H Q E h => ?_) (fun cdv A outer s H vs Q E hr h => ?_)
  · obtain ⟨l, pp, q, rfl, _⟩ := h
    rfl
  · obtain ⟨l, pp, q, rfl, hp, k⟩ := h
    refine ⟨_, (pss_one (ps_ret pe_bl)), ?_⟩
    walk_at "rdf"
    exact k
theorem ok_by_low (T : Txt w K mg) : FnOk P w K mg base CX0 1 T.f_by_low T.fd_by_low ["low", "part"] (spRule T.C_Number .low) := by
  refine T.F_by_low.ok sc_by_low (fun vs H Q E h => ?_) (fun cdv A outer s H vs Q E hr h => ?_)
  · obtain ⟨l, pp, q, rfl, _⟩ := h
    rfl
  · obtain ⟨l, pp, q, rfl, hp, k⟩ := h
    refine ⟨_, (pss_one (ps_ret pe_bl)), ?_⟩
    walk_at "rdf"
    exact k
theorem ok_by_half_up (T : Txt w K mg) : FnOk P w K mg base CX0 2 T.f_by_half_up T.fd_by_half_up ["low", "part"] (spRule T.C_Number .hup) := by
  refine T.F_by_half_up.ok sc_by_half_up (fun vs H Q E h => ?_) (fun cdv A outer s H vs Q E hr h => ?_)
  · obtain ⟨l, pp, q, rfl, _⟩ := h
    rfl
  · obtain ⟨l, pp, q, rfl, hp, k⟩ := h
    refine ⟨_, (pss_one (ps_ret (pe_call (ok_nearer T) (hr.mono (by decide)) (by rfl) T.m_nearer T.F_nearer.kp T.b_nearer .nil pass0 (pa_cons (pv 1) (pa_cons (pe_cmpR op_ge (pv 0) pe_int (nomark _)) pa_nil))))), ?_⟩
    walk_at "rdf"
    exact ⟨pp, q, _, rfl, hp, k⟩
theorem ok_by_half_down (T : Txt w K mg) : FnOk P w K mg base CX0 2 T.f_by_half_down T.fd_by_half_down ["low", "part"] (spRule T.C_Number .hdown) := by
  refine T.F_by_half_down.ok sc_by_half_down (fun vs H Q E h => ?_) (fun cdv A outer s H vs Q E hr h => ?_)
  · obtain ⟨l, pp, q, rfl, _⟩ := h
    rfl
  · obtain ⟨l, pp, q, rfl, hp, k⟩ := h
    refine ⟨_, (pss_one (ps_ret (pe_call (ok_nearer T) (hr.mono (by decide)) (by rfl) T.m_nearer T.F_nearer.kp T.b_nearer .nil pass0 (pa_cons (pv 1) (pa_cons (pe_cmpR op_lt (pv 0) pe_int (nomark _)) pa_nil))))), ?_⟩
    walk_at "rdf"
    exact ⟨pp, q, _, rfl, hp, k⟩
theorem ok_by_half_even (T : Txt w K mg) : FnOk P w K mg base CX0 2 T.f_by_half_even T.fd_by_half_even ["low", "part"] (spRule T.C_Number .heven) := by
  refine T.F_by_half_even.ok sc_by_half_even (fun vs H Q E h => ?_) (fun cdv A outer s H vs Q E hr h => ?_)
  · obtain ⟨l, pp, q, rfl, _⟩ := h
    rfl
  · obtain ⟨l, pp, q, rfl, hp, k⟩ := h
    refine ⟨_, (pss_one (ps_ret (pe_call (ok_nearer T) (hr.mono (by decide)) (by rfl) T.m_nearer T.F_nearer.kp T.b_nearer .nil pass0 (pa_cons (pv 1) (pa_cons (pe_cmpR op_eq (pe_op op_mod (pv 0) pe_int) pe_int (nomark _)) pa_nil))))), ?_⟩
    walk_at "rdf"
    exact ⟨pp, q, _, rfl, hp, k⟩
theorem ok_by_half_odd (T : Txt w K mg) : FnOk P w K mg base CX0 2 T.f_by_half_odd T.fd_by_half_odd ["low", "part"] (spRule T.C_Number .hodd) := by
  refine T.F_by_half_odd.ok sc_by_half_odd (fun vs H Q E h => ?_) (fun cdv A outer s H vs Q E hr h => ?_)
  · obtain ⟨l, pp, q, rfl, _⟩ := h
    rfl
  · obtain ⟨l, pp, q, rfl, hp, k⟩ := h
    refine ⟨_, (pss_one (ps_ret (pe_call (ok_nearer T) (hr.mono (by decide)) (by rfl) T.m_nearer T.F_nearer.kp T.b_nearer .nil pass0 (pa_cons (pv 1) (pa_cons (pe_cmpR op_eq (pe_op op_mod (pv 0) pe_int) pe_int (nomark _)) pa_nil))))), ?_⟩
    walk_at "rdf"
    exact ⟨pp, q, _, rfl, hp, k⟩
theorem rule_held (T : Txt w K mg) (r : Way) : ∃ (f : Addr) (fd : FuncData), FnOk P w K mg base CX0 2 f fd ["low", "part"] (spRule T.C_Number r) ∧ PySem.W.keepIn K (.ref f) = true ∧ Binds K fd ["low", "part"] [] ∧ KDct K w T.D_RULES (wname r) (.ref f) := by
  cases r with
  | up => exact ⟨_, _, (ok_by_up T).mono (by decide), T.F_by_up.kp, T.b_by_up, _, _, _, T.l_RULES, T.k_RULES, T.rule_by_up, rfl⟩
  | down => exact ⟨_, _, (ok_by_down T).mono (by decide), T.F_by_down.kp, T.b_by_down, _, _, _, T.l_RULES, T.k_RULES, T.rule_by_down, rfl⟩
  | high => exact ⟨_, _, (ok_by_high T).mono (by decide), T.F_by_high.kp, T.b_by_high, _, _, _, T.l_RULES, T.k_RULES, T.rule_by_high, rfl⟩
  | low => exact ⟨_, _, (ok_by_low T).mono (by decide), T.F_by_low.kp, T.b_by_low, _, _, _, T.l_RULES, T.k_RULES, T.rule_by_low, rfl⟩
  | hup => exact ⟨_, _, ok_by_half_up T, T.F_by_half_up.kp, T.b_by_half_up, _, _, _, T.l_RULES, T.k_RULES, T.rule_by_half_up, rfl⟩
  | hdown => exact ⟨_, _, ok_by_half_down T, T.F_by_half_down.kp, T.b_by_half_down, _, _, _, T.l_RULES, T.k_RULES, T.rule_by_half_down, rfl⟩
  | heven => exact ⟨_, _, ok_by_half_even T, T.F_by_half_even.kp, T.b_by_half_even, _, _, _, T.l_RULES, T.k_RULES, T.rule_by_half_even, rfl⟩
  | hodd => exact ⟨_, _, ok_by_half_odd T, T.F_by_half_odd.kp, T.b_by_half_odd, _, _, _, T.l_RULES, T.k_RULES, T.rule_by_half_odd, rfl⟩
def spPaper (C : Addr) : Sp := fun vs H Q _ => ∃ (p s : Addr) (x y : Rat) (r : Way), vs = [.ref p, .ref s, .str (wname r)] ∧ NumAt C H p x ∧ NumAt C H s y ∧ Bd 900 x ∧ Bd 900 y ∧ y ≠ 0 ∧
  ∀ (t : Addr) (H' : Hp), Same H H' → H' t = some (.tup [.int (x / y).floor, .int (highQ (x / y)), .int (takenQ r (x / y))]) → Q (.ref t) H'
theorem is_str {w : World} {K : PySem.W.Frag} {H : Hp} {z : Str} {Q : VK} (q : Q (.bl true) H) : rIsi K [.str z, .ty "str"] H Q :=
  ⟨.str z, .ty "str", .type "str", .type "str", true, rfl, .ty "str", .base (.str z), kit_ty (by decide +kernel), q⟩
theorem highQ_eq {n : Rat} : n.floor = highQ n ↔ (partQ n).num = 0 := by
  unfold highQ
  split
  · exact ⟨fun _ => by assumption, fun _ => rfl⟩
  · exact ⟨fun e => by omega, fun e => absurd e (by assumption)⟩
theorem ok_round_paper (T : Txt w K mg) : FnOk P w K mg base CX0 5 T.f_round_paper T.fd_round_paper ["number", "step", "way"] (spPaper T.C_Number) := by
  refine T.F_round_paper.ok sc_round_paper (fun vs H Q E h => ?_) (fun cdv A outer s H vs Q E hr h => ?_)
  · obtain ⟨p, q, x, y, r, rfl, _⟩ := h
    rfl
  · obtain ⟨p, q, x, y, r, rfl, hp, hq, bx, by', y0, k⟩ := h
    obtain ⟨f, fd, Fr, kr, br, kd⟩ := rule_held (P := P) (base := base) T r
    refine ⟨_, (pss_cons (ps_asg (pe_call (ok_place_of T) (hr.mono (by decide)) (by rfl) T.m_place_of T.F_place_of.kp T.b_place_of .nil pass0 (pa_cons (pv 0) (pa_cons (pv 1) pa_nil))) (pg_tup rfl (pgs_cons (pg_name (i := 3) sc_round_paper.nd rfl (Or.inl rfl)) (pgs_cons (pg_name (i := 4) sc_round_paper.nd rfl (Or.inl rfl)) (pgs_cons (pg_name (i := 5) sc_round_paper.nd rfl (Or.inl rfl)) pgs_nil)))))
 (pss_cons (ps_if (pt_cmpR op_eq (pv 3) (pv 4) (nomark _))
  (pss_one (ps_ret (pe_tup (pa_cons (pv 3) (pa_cons (pv 4) (pa_cons (pv 3) pa_nil))))))
  pss_nil)
 (pss_cons (ps_set (i := 6) sc_round_paper.nd rfl (Or.inl rfl) (pv 2))
 (pss_cons (ps_if (pt_val (pe_callB call_isi (by rfl) T.n_isinstance (by decide +kernel) (pa_cons (pv 2) (pa_cons (pe_bltn (v := .ty "str") (by rfl) T.n_str (by decide +kernel) rfl) pa_nil))))
  (pss_one (ps_set (i := 6) sc_round_paper.nd rfl (Or.inl rfl) (pe_ix ix_kdict (pe_glob (v := .ref T.D_RULES) (by rfl) T.m_RULES rfl) (pv 2) (fun _ _ => rfl))))
  pss_nil)
 (pss_cons (ps_if (pt_cmpR op_isBl (pe_callL (i := 6) Fr (hr.mono (by decide)) rfl (Or.inl rfl) kr br .nil pass0 (pa_cons (pv 3) (pa_cons (pv 5) pa_nil))) pe_bl (nomark _))
  (pss_one (ps_ret (pe_tup (pa_cons (pv 3) (pa_cons (pv 4) (pa_cons (pv 4) pa_nil))))))
  pss_nil)
 (pss_one (ps_ret (pe_tup (pa_cons (pv 3) (pa_cons (pv 4) (pa_cons (pv 3) pa_nil))))))))))), ?_⟩
    walk_at "rd"
    refine ⟨p, q, x, y, rfl, hp, hq, bx, by', y0, fun t pp H1 s1 h1 hpp => ?_⟩
    refine ⟨t, _, rfl, SqT.of h1, rfl, _, _, rfl, ?_⟩
    walk_at "rd"
    refine ⟨_, _, rfl, ?_⟩
    walk_at "rd"
    refine ⟨_, _, rfl, ?_⟩
    walk_at "rd"
    refine ⟨rfl, ?_⟩
    walk_at "rd"
    refine r_ite (fun e => ?_) (fun e => ?_)
    · walk_at "rd"
      refine r_new (by show 3 ≤ 1000; decide) fun t2 ht => ?_
      have e1 := highQ_eq.mp (of_decide_eq_true e)
      have e2 : takenQ r (x / y) = (x / y).floor := by unfold takenQ; rw [if_pos e1]
      exact k t2 _ (s1.trans (Same.new ht)) (by rw [upd_same, e2])
    · have e1 : ¬ (partQ (x / y)).num = 0 := fun z => of_decide_eq_false e (highQ_eq.mpr z)
      have e3 : highQ (x / y) = (x / y).floor + 1 := by unfold highQ; rw [if_neg e1]
      walk_at "rd"
      refine is_str (w := w) ?_
      walk_at "rd"
      refine r_iteT rfl ?_
      walk_at "rd"
      refine ⟨_, _, _, rfl, rfl, kd, ?_⟩
      walk_at "rd"
      refine ⟨rfl, ?_⟩
      walk_at "rd"
      refine ⟨_, pp, partQ (x / y), rfl, hpp, ?_⟩
      walk_at "rd"
      refine ⟨_, _, rfl, rfl, ?_⟩
      walk_at "rd"
      refine r_ite (fun z => ?_) (fun z => ?_)
      · have z' : ruleB r (x / y).floor (partQ (x / y)) = true := of_decide_eq_true z
        walk_at "rd"
        refine r_new (by show 3 ≤ 1000; decide) fun t2 ht => ?_
        have e2 : takenQ r (x / y) = highQ (x / y) := by unfold takenQ; rw [if_neg e1, if_pos z', e3]
        exact k t2 _ (s1.trans (Same.new ht)) (by rw [upd_same, e2])
      · have z' : ¬ ruleB r (x / y).floor (partQ (x / y)) = true := of_decide_eq_false z
        walk_at "rd"
        refine r_new (by show 3 ≤ 1000; decide) fun t2 ht => ?_
        have e2 : takenQ r (x / y) = (x / y).floor := by unfold takenQ; rw [if_neg e1, if_neg z']
        exact k t2 _ (s1.trans (Same.new ht)) (by rw [upd_same, e2])
def spRounded (C : Addr) : Sp := fun vs H Q _ => ∃ (p s : Addr) (x y : Rat) (r : Way), vs = [.ref p, .ref s, .str (wname r)] ∧ NumAt C H p x ∧ NumAt C H s y ∧ Bd 900 x ∧ Bd 900 y ∧ y ≠ 0 ∧
  ∀ (t : Addr) (H' : Hp), Same H H' → NumAt C H' t (y * (takenQ r (x / y) : Rat)) → Q (.ref t) H'
theorem taken_bd {n : Nat} {r : Way} {x : Rat} (h : Bd n x) : (takenQ r x).natAbs < 2 ^ (n + 1) := by
  have b := floor_bd h
  rw [Nat.pow_succ]
  unfold takenQ
  split
  · omega
  · split <;> omega
theorem ok_rounded (T : Txt w K mg) : FnOk P w K mg base CX0 6 T.f_rounded T.fd_rounded ["number", "step", "way"] (spRounded T.C_Number) := by
  refine T.F_rounded.ok sc_rounded (fun vs H Q E h => ?_) (fun cdv A outer s H vs Q E hr h => ?_)
  · obtain ⟨p, q, x, y, r, rfl, _⟩ := h
    rfl
  · obtain ⟨p, q, x, y, r, rfl, hp, hq, bx, by', y0, k⟩ := h
    refine ⟨_, (pss_cons (ps_set (i := 3) sc_rounded.nd rfl (Or.inl rfl) (pe_ix ix_tup (pe_callN (ok_round_paper T) (hr.mono (by decide)) (by rfl) T.m_round_paper T.F_round_paper.kp T.kb_round_paper pass0 (pa_cons (pv 0) (pa_cons (pv 1) pa_nil)) (pk_cons (pv 2) pk_nil)) pe_int (fun _ _ => rfl)))
 (pss_one (ps_ret (pe_meth (pv 1) T.c_Number T.me_Number_times (ok_Number_times T) (hr.mono (by decide)) T.b_Number_times .nil pass0 (pa_cons (pe_make T.mk_Number (ok_Number_init T) (hr.mono (by decide)) (by rfl) T.m_Number T.b_Number_init1 T.d_Number_init1 pass0 (pa_cons (pv 3) pa_nil)) pa_nil))))), ?_⟩
    walk_at "rd"
    refine ⟨rfl, rfl, ?_⟩
    refine ⟨p, q, x, y, r, rfl, hp, hq, bx, by', y0, fun t H1 s1 h1 => ?_⟩
    walk_at "rd"
    refine r_ixT h1 (atI_nat (j := 2) rfl) ?_
    walk_at "rd"
    obtain ⟨dq, hq1⟩ := hq.same s1
    refine r_meth1 hq1 (no_times _) ?_
    walk_at "rd"
    refine mk_num1 fun u H2 s2 n2 h2 => ?_
    walk_at "rd"
    refine ⟨q, u, y, _, rfl, ⟨_, s2 _ _ hq1⟩, h2, by'.mono (by decide), (Bd.int (taken_bd (Bd.div bx by' y0)) (by decide)).mono (by decide), trivial, fun t3 H3 s3 n3 h3 => ?_⟩
    exact k t3 H3 ((s1.trans s2).trans s3) h3
end
end My

namespace My
open PySem L2
section
variable {P : Program} {w : World} {K : PySem.W.Frag} {mg : Str → Option Value} {base : Heap}
theorem is_num (T : Txt w K mg) {H : Hp} {p : Addr} {q : Rat} {Q : VK} (h : NumAt T.C_Number H p q) (k : Q (.bl true) H) : rIsi K [.ref p, .ref T.C_Number] H Q := by
  obtain ⟨dx, e⟩ := h
  exact ⟨.ref p, .ref T.C_Number, .ref T.C_Number, .ref T.C_Number, true, rfl, .own _, .base (.ins e T.c_Number T.ty_Number_c T.ty_Number_g T.ty_Number_t T.ty_Number_m), T.ty_Number_k, k⟩
def spNumEq (C : Addr) : Sp := fun vs H Q _ => ∃ (a b : Addr) (x y : Rat), vs = [.ref a, .ref b] ∧ NumAt C H a x ∧ NumAt C H b y ∧ Q (.bl (decide (x = y))) H
theorem rat_dec (x y : Rat) : decide (x = y) = (decide (x.num = y.num) && decide ((x.den : Int) = (y.den : Int))) := by
  rw [Bool.eq_iff_iff, Bool.and_eq_true, decide_eq_true_eq, decide_eq_true_eq, decide_eq_true_eq]
  constructor
  · rintro rfl
    exact ⟨rfl, rfl⟩
  · rintro ⟨h1, h2⟩
    exact Rat.ext h1 (by omega)
theorem ok_Number_eq (T : Txt w K mg) : FnOk P w K mg base CX0 1 T.f_Number_eq T.fd_Number_eq ["self", "other"] (spNumEq T.C_Number) := by
  refine T.F_Number_eq.ok sc_Number_eq (fun vs H Q E h => ?_) (fun cdv A outer s H vs Q E hr h => ?_)
  · obtain ⟨a, b, x, y, rfl, _⟩ := h
    rfl
  · obtain ⟨a, b, x, y, rfl, ⟨dx, ha⟩, ⟨dy, hb⟩, k⟩ := h
    have cN := T.c_Number
    have nT := T.n_Number_top
    have nB := T.n_Number_bottom
    rw [rat_dec] at k
    refine ⟨_, (pss_one (ps_ret (pe_and (pe_callB call_isi (by rfl) T.n_isinstance (by decide +kernel) (pa_cons (pv 1) (pa_cons (pe_glob (v := .ref T.C_Number) (by rfl) T.m_Number rfl) pa_nil))) (pe_and (pe_cmpR op_eq (pe_fld (pv 0) rfl) (pe_fld (pv 1) rfl) (nomark _)) (pe_one (pe_cmpR op_eq (pe_fld (pv 0) rfl) (pe_fld (pv 1) rfl) (nomark _))))))), ?_⟩
    walk_at "rdf"
    refine is_num T ⟨_, hb⟩ ?_
    walk_at "rdf"
    refine r_iteT rfl ?_
    walk_at "rdf"
    refine r_ite (fun e => ?_) (fun e => ?_)
    · rw [e, Bool.true_and] at k
      walk_at "rdf"
      exact k
    · rw [e, Bool.false_and] at k
      exact k
theorem r_eqNum {C : Addr} {H : Hp} {a b : Addr} {x y : Rat} {Q : VK} (ha : NumAt C H a x) (hb : NumAt C H b y) (q : Q (.bl (decide (x = y))) H) : rEqOwn C (spNumEq C) (.ref a) (.ref b) H Q := by
  obtain ⟨dx, h1⟩ := ha
  obtain ⟨dy, h2⟩ := hb
  exact ⟨a, b, dx, dy, _, _, rfl, rfl, h1, h2, a, b, x, y, rfl, ⟨dx, h1⟩, ⟨dy, h2⟩, _, rfl, q⟩
theorem r_neNum {C : Addr} {H : Hp} {a b : Addr} {x y : Rat} {Q : VK} (ha : NumAt C H a x) (hb : NumAt C H b y) (q : Q (.bl (!decide (x = y))) H) : rNeOwn C (spNumEq C) (.ref a) (.ref b) H Q := by
  obtain ⟨dx, h1⟩ := ha
  obtain ⟨dy, h2⟩ := hb
  exact ⟨a, b, dx, dy, _, _, rfl, rfl, h1, h2, a, b, x, y, rfl, ⟨dx, h1⟩, ⟨dy, h2⟩, _, rfl, q⟩
end
end My

namespace My
open PySem L2
section
variable {P : Program} {w : World} {K : PySem.W.Frag} {mg : Str → Option Value} {base : Heap}
theorem no_size (q : Rat) : (nf q).lookup ("size" : Str) = none := nf_no _ (by decide +kernel) (by decide +kernel)
theorem no_below (q : Rat) : (nf q).lookup ("below" : Str) = none := nf_no _ (by decide +kernel) (by decide +kernel)
def spSize (C : Addr) : Sp := fun vs H Q _ => ∃ (p : Addr) (x : Rat), vs = [.ref p] ∧ NumAt C H p x ∧ Bd 8000 x ∧ ∀ (r : Addr) (H' : Hp), Same H H' → H r = none → NumAt C H' r (absQ x) → Q (.ref r) H'
theorem ok_Number_size (T : Txt w K mg) : FnOk P w K mg base CX0 3 T.f_Number_size T.fd_Number_size ["self"] (spSize T.C_Number) := by
  refine T.F_Number_size.ok sc_Number_size (fun vs H Q E h => ?_) (fun cdv A outer s H vs Q E hr h => ?_)
  · obtain ⟨p, x, rfl, _⟩ := h
    rfl
  · obtain ⟨p, x, rfl, ⟨dx, hp⟩, bx, k⟩ := h
    have cN := T.c_Number
    have nT := T.n_Number_top
    have nB := T.n_Number_bottom
    refine ⟨_, (pss_one (ps_ret (pe_make T.mk_Number (ok_Number_init T) (hr.mono (by decide)) (by rfl) T.m_Number T.b_Number_init2 .nil pass0 (pa_cons (pe_callB call_abs (by rfl) T.n_abs (by decide +kernel) (pa_cons (pe_fld (pv 0) rfl) pa_nil)) (pa_cons (pe_fld (pv 0) rfl) pa_nil))))), ?_⟩
    walk_at "rdf"
    refine ⟨_, rfl, ?_⟩
    walk_at "rdf"
    exact mk_num (den_ne x) (Nat.lt_of_lt_of_le (bd_den bx) (Nat.pow_le_pow_right (by decide) (by decide))) fun r H' s n h => k r H' s n h
def spBelow (C : Addr) : Sp := fun vs H Q _ => ∃ (p q : Addr) (x y : Rat), vs = [.ref p, .ref q] ∧ NumAt C H p x ∧ NumAt C H q y ∧ Bd 4000 x ∧ Bd 4000 y ∧ Q (.bl (decide (x < y))) H
theorem ok_Number_below (T : Txt w K mg) : FnOk P w K mg base CX0 1 T.f_Number_below T.fd_Number_below ["self", "other"] (spBelow T.C_Number) := by
  refine T.F_Number_below.ok sc_Number_below (fun vs H Q E h => ?_) (fun cdv A outer s H vs Q E hr h => ?_)
  · obtain ⟨p, q, x, y, rfl, _⟩ := h
    rfl
  · obtain ⟨p, q, x, y, rfl, ⟨dx, hp⟩, ⟨dy, hq⟩, bx, by', k⟩ := h
    have cN := T.c_Number
    have nT := T.n_Number_top
    have nB := T.n_Number_bottom
    refine ⟨_, (pss_one (ps_ret (pe_cmpR op_lt (pe_op op_mulW (pe_fld (pv 0) rfl) (pe_fld (pv 1) rfl)) (pe_op op_mulW (pe_fld (pv 1) rfl) (pe_fld (pv 0) rfl)) (nomark _)))), ?_⟩
    rw [lt_dec] at k
    walk_at "rdf"
    refine r_I (cm bx.1 (bd_den by')) ?_
    walk_at "rdf"
    refine r_I (cm by'.1 (bd_den bx)) ?_
    walk_at "rdf"
    exact k
end
end My

namespace My
open PySem L2
section
variable {P : Program} {w : World} {K : PySem.W.Frag} {mg : Str → Option Value} {base : Heap}
theorem Bd.add {m n : Nat} {x y : Rat} (hx : Bd m x) (hy : Bd n y) : Bd (m + n + 1) (x + y) := by
  rw [← add_eq]
  refine Bd.of (Int.mul_ne_zero (den_ne x) (den_ne y)) ?_ ?_
  · exact natAbs_add_lt (natAbs_mul_lt (m := m) (n := n) hx.1 (by have := hy.2; omega) (Nat.le_refl _)) (natAbs_mul_lt (m := n) (n := m) hy.1 (by have := hx.2; omega) (by omega))
  · exact natAbs_mul_lt (m := m) (n := n) (by have := hx.2; omega) (by have := hy.2; omega) (by omega)
theorem no_more (q : Rat) : (nf q).lookup ("more" : Str) = none := nf_no _ (by decide +kernel) (by decide +kernel)
theorem ok_Number_more (T : Txt w K mg) : FnOk P w K mg base CX0 3 T.f_Number_more T.fd_Number_more ["self", "other"] (spBin T.C_Number (fun x y => x + y) fun _ _ => True) := by
  refine T.F_Number_more.ok sc_Number_more (fun vs H Q E h => ?_) (fun cdv A outer s H vs Q E hr h => ?_)
  · obtain ⟨p, q, x, y, rfl, _⟩ := h
    rfl
  · obtain ⟨p, q, x, y, rfl, ⟨dx, hp⟩, ⟨dy, hq⟩, bx, by', _, k⟩ := h
    have cN := T.c_Number
    have nT := T.n_Number_top
    have nB := T.n_Number_bottom
    refine ⟨_, (pss_one (ps_ret (pe_make T.mk_Number (ok_Number_init T) (hr.mono (by decide)) (by rfl) T.m_Number T.b_Number_init2 .nil pass0 (pa_cons (pe_op op_add (pe_op op_mulW (pe_fld (pv 0) rfl) (pe_fld (pv 1) rfl)) (pe_op op_mulW (pe_fld (pv 1) rfl) (pe_fld (pv 0) rfl))) (pa_cons (pe_op op_mulW (pe_fld (pv 0) rfl) (pe_fld (pv 1) rfl)) pa_nil))))), ?_⟩
    walk_at "rdf"
    refine r_I (cm bx.1 (bd_den by')) ?_
    walk_at "rdf"
    refine r_I (cm by'.1 (bd_den bx)) ?_
    walk_at "rdf"
    refine r_I (cm (bd_den bx) (bd_den by')) ?_
    walk_at "rdf"
    refine mk_num (dd_ne x y) (dd_lt bx by') fun r H' s n h => ?_
    rw [add_eq] at h
    exact k r H' s n h
end
end My

namespace My
open PySem L2
/-- rounded, as it is read -/
theorem rd_rounded {C : Addr} {H : Hp} {p s : Addr} {x y : Rat} {r : Way} {Q : VK} {E : XK} (hp : NumAt C H p x) (hs : NumAt C H s y) (bx : Bd 900 x) (by' : Bd 900 y) (y0 : y ≠ 0) (q : ∀ (t : Addr) (H' : Hp), Same H H' → NumAt C H' t (y * (takenQ r (x / y) : Rat)) → Q (.ref t) H') :
    ([V.ref p, V.ref s].length = 2 ∧ [V.str (wname r)].length = 1 ∧ spRounded C ([V.ref p, V.ref s] ++ [V.str (wname r)]) H Q E) := ⟨rfl, rfl, p, s, x, y, r, rfl, hp, hs, bx, by', y0, q⟩
end My

namespace My
open PySem L2 LamX NdefX
/-! ### rounding by a function -/
section
variable {P : Program} {w : World} {K : PySem.W.Frag} {mg : Str → Option Value} {base : Heap}
/-- what a function at f tells of x by the step y, and what follows -/
def AskR (P : Program) (w : World) (K : PySem.W.Frag) (mg : Str → Option Value) (base : Heap) (C f : Addr) (x y : Rat) (H : Hp) (R : Int → Hp → Prop) : Prop :=
  (∃ F, H f = some (FnO f F)) ∧ ((partQ (x / y)).num = 0 → ∀ H', Same H H' → R (x / y).floor H') ∧
  ((partQ (x / y)).num ≠ 0 → ∀ (pp : Addr) (H1 : Hp) (Q : VK), Same H H1 → NumAt C H1 pp (partQ (x / y)) → (∀ v H2, R (if v = .bl true then (x / y).floor + 1 else (x / y).floor) H2 → Q v H2) → AskF P w K mg base 1 f [.int (x / y).floor, .ref pp] H1 Q)
theorem AskR.same {C f : Addr} {x y : Rat} {H H' : Hp} {R : Int → Hp → Prop} (a : AskR P w K mg base C f x y H R) (s : Same H H') : AskR P w K mg base C f x y H' R :=
  ⟨let ⟨F, h⟩ := a.1; ⟨F, s _ _ h⟩, fun e H1 s1 => a.2.1 e H1 (s.trans s1), fun e pp H1 Q s1 => a.2.2 e pp H1 Q (s.trans s1)⟩
theorem AskR.imp {C f : Addr} {x y : Rat} {H : Hp} {R R' : Int → Hp → Prop} (a : AskR P w K mg base C f x y H R) (h : ∀ i H', R i H' → R' i H') : AskR P w K mg base C f x y H R' :=
  ⟨a.1, fun e H1 s1 => h _ _ (a.2.1 e H1 s1), fun e pp H1 Q s1 n q => a.2.2 e pp H1 Q s1 n fun v H2 r => q v H2 (h _ _ r)⟩
def spPaperF (P : Program) (w : World) (K : PySem.W.Frag) (mg : Str → Option Value) (base : Heap) (C : Addr) : Sp := fun vs H Q _ => ∃ (p s f : Addr) (x y : Rat), vs = [.ref p, .ref s, .ref f] ∧ NumAt C H p x ∧ NumAt C H s y ∧ Bd 900 x ∧ Bd 900 y ∧ y ≠ 0 ∧
  AskR P w K mg base C f x y H fun i H1 => ∀ (t : Addr) (H2 : Hp), Same H1 H2 → H2 t = some (.tup [.int (x / y).floor, .int (highQ (x / y)), .int i]) → Q (.ref t) H2
theorem ok_round_paperF (T : Txt w K mg) : FnOk P w K mg base CX0 5 T.f_round_paper T.fd_round_paper ["number", "step", "way"] (spPaperF P w K mg base T.C_Number) := by
  refine T.F_round_paper.ok sc_round_paper (fun vs H Q E h => ?_) (fun cdv A outer s H vs Q E hr h => ?_)
  · obtain ⟨p, q, f, x, y, rfl, _⟩ := h
    rfl
  · obtain ⟨p, q, f, x, y, rfl, hp, hq, bx, by', y0, ask⟩ := h
    obtain ⟨F, hF⟩ := ask.1
    refine ⟨_, (pss_cons (ps_asg (pe_call (ok_place_of T) (hr.mono (by decide)) (by rfl) T.m_place_of T.F_place_of.kp T.b_place_of .nil pass0 (pa_cons (pv 0) (pa_cons (pv 1) pa_nil))) (pg_tup rfl (pgs_cons (pg_name (i := 3) sc_round_paper.nd rfl (Or.inl rfl)) (pgs_cons (pg_name (i := 4) sc_round_paper.nd rfl (Or.inl rfl)) (pgs_cons (pg_name (i := 5) sc_round_paper.nd rfl (Or.inl rfl)) pgs_nil)))))
 (pss_cons (ps_if (pt_cmpR op_eq (pv 3) (pv 4) (nomark _))
  (pss_one (ps_ret (pe_tup (pa_cons (pv 3) (pa_cons (pv 4) (pa_cons (pv 3) pa_nil))))))
  pss_nil)
 (pss_cons (ps_set (i := 6) sc_round_paper.nd rfl (Or.inl rfl) (pv 2))
 (pss_cons (ps_if (pt_val (pe_callB call_isiC (by rfl) T.n_isinstance (by decide +kernel) (pa_cons (pv 2) (pa_cons (pe_bltn (v := .ty "str") (by rfl) T.n_str (by decide +kernel) rfl) pa_nil))))
  (pss_one (ps_set (i := 6) sc_round_paper.nd rfl (Or.inl rfl) (pe_ix ix_kdict (pe_glob (v := .ref T.D_RULES) (by rfl) T.m_RULES rfl) (pv 2) (fun _ _ => rfl))))
  pss_nil)
 (pss_cons (ps_if (pt_cmpR op_isA (pe_callC (k := 1) (i := 6) (hr.mono (by decide)) rfl (Or.inl rfl) pass0 (pa_cons (pv 3) (pa_cons (pv 5) pa_nil))) pe_bl (nomark _))
  (pss_one (ps_ret (pe_tup (pa_cons (pv 3) (pa_cons (pv 4) (pa_cons (pv 4) pa_nil))))))
  pss_nil)
 (pss_one (ps_ret (pe_tup (pa_cons (pv 3) (pa_cons (pv 4) (pa_cons (pv 3) pa_nil))))))))))), ?_⟩
    walk_at "rd"
    refine ⟨p, q, x, y, rfl, hp, hq, bx, by', y0, fun t pp H1 s1 h1 hpp => ?_⟩
    refine ⟨t, _, rfl, SqT.of h1, rfl, _, _, rfl, ?_⟩
    walk_at "rd"
    refine ⟨_, _, rfl, ?_⟩
    walk_at "rd"
    refine ⟨_, _, rfl, ?_⟩
    walk_at "rd"
    refine ⟨rfl, ?_⟩
    walk_at "rd"
    refine r_ite (fun e => ?_) (fun e => ?_)
    · walk_at "rd"
      refine r_new (by show 3 ≤ 1000; decide) fun t2 ht => ?_
      have e1 := highQ_eq.mp (of_decide_eq_true e)
      exact ask.2.1 e1 H1 s1 t2 _ (Same.new ht) upd_same
    · have e1 : ¬ (partQ (x / y)).num = 0 := fun z => of_decide_eq_false e (highQ_eq.mpr z)
      have e3 : highQ (x / y) = (x / y).floor + 1 := by unfold highQ; rw [if_neg e1]
      walk_at "rd"
      refine ⟨f, F, rfl, s1 _ _ hF, ?_⟩
      walk_at "rd"
      refine r_iteF rfl ?_
      walk_at "rd"
      refine ⟨f, F, rfl, s1 _ _ hF, ?_⟩
      walk_at "rd"
      refine ask.2.2 e1 pp H1 _ s1 hpp fun v H2 hR => ?_
      walk_at "rd"
      refine ⟨true, rfl, ?_⟩
      walk_at "rd"
      refine r_ite (fun z => ?_) (fun z => ?_)
      · have z' : v = .bl true := of_decide_eq_true z
        walk_at "rd"
        refine r_new (by show 3 ≤ 1000; decide) fun t2 ht => ?_
        exact hR t2 _ (Same.new ht) (by rw [upd_same, if_pos z', e3])
      · have z' : ¬ v = .bl true := of_decide_eq_false z
        walk_at "rd"
        refine r_new (by show 3 ≤ 1000; decide) fun t2 ht => ?_
        exact hR t2 _ (Same.new ht) (by rw [upd_same, if_neg z'])
def spRoundedF (P : Program) (w : World) (K : PySem.W.Frag) (mg : Str → Option Value) (base : Heap) (C : Addr) : Sp := fun vs H Q _ => ∃ (p s f : Addr) (x y : Rat), vs = [.ref p, .ref s, .ref f] ∧ NumAt C H p x ∧ NumAt C H s y ∧ Bd 900 x ∧ Bd 900 y ∧ y ≠ 0 ∧
  AskR P w K mg base C f x y H fun i H1 => NumAt C H1 s y ∧ ∀ (t : Addr) (H2 : Hp), Same H1 H2 → NumAt C H2 t (y * (i : Rat)) → Q (.ref t) H2
theorem ok_roundedF (T : Txt w K mg) : FnOk P w K mg base CX0 6 T.f_rounded T.fd_rounded ["number", "step", "way"] (spRoundedF P w K mg base T.C_Number) := by
  refine T.F_rounded.ok sc_rounded (fun vs H Q E h => ?_) (fun cdv A outer s H vs Q E hr h => ?_)
  · obtain ⟨p, q, f, x, y, rfl, _⟩ := h
    rfl
  · obtain ⟨p, q, f, x, y, rfl, hp, hq, bx, by', y0, ask⟩ := h
    refine ⟨_, (pss_cons (ps_set (i := 3) sc_rounded.nd rfl (Or.inl rfl) (pe_ix ix_tup (pe_callN (ok_round_paperF T) (hr.mono (by decide)) (by rfl) T.m_round_paper T.F_round_paper.kp T.kb_round_paper pass0 (pa_cons (pv 0) (pa_cons (pv 1) pa_nil)) (pk_cons (pv 2) pk_nil)) pe_int (fun _ _ => rfl)))
 (pss_one (ps_ret (pe_meth (pv 1) T.c_Number T.me_Number_times (ok_Number_times T) (hr.mono (by decide)) T.b_Number_times .nil pass0 (pa_cons (pe_make T.mk_Number (ok_Number_init T) (hr.mono (by decide)) (by rfl) T.m_Number T.b_Number_init1 T.d_Number_init1 pass0 (pa_cons (pv 3) pa_nil)) pa_nil))))), ?_⟩
    walk_at "rd"
    refine ⟨rfl, rfl, ?_⟩
    have fl : ((x / y).floor).natAbs < 2 ^ 1801 := by
      have b := floor_bd (Bd.div bx by' y0)
      exact Nat.lt_trans b (Nat.pow_lt_pow_right (by decide) (by decide))
    have go : ∀ (i : Int) (H1 : Hp), i.natAbs ≤ ((x / y).floor).natAbs + 1 → (NumAt T.C_Number H1 q y ∧ ∀ (t : Addr) (H2 : Hp), Same H1 H2 → NumAt T.C_Number H2 t (y * (i : Rat)) → Q (.ref t) H2) → ∀ (t : Addr) (H2 : Hp), Same H1 H2 → H2 t = some (.tup [.int (x / y).floor, .int (highQ (x / y)), .int i]) → (H2 t = some (.tup [.int (x / y).floor, .int (highQ (x / y)), .int i]) ∧ NumAt T.C_Number H2 q y ∧ Bd 3000 (i : Rat) ∧ ∀ (t : Addr) (H3 : Hp), Same H2 H3 → NumAt T.C_Number H3 t (y * (i : Rat)) → Q (.ref t) H3) := fun i H1 bi h t H2 s ht =>
      ⟨ht, h.1.same s, Bd.int (Nat.lt_of_le_of_lt bi (Nat.lt_of_le_of_lt (Nat.succ_le_of_lt fl) (Nat.pow_lt_pow_right (by decide) (by decide)))) (by decide), fun t H3 s3 h3 => h.2 t H3 (s.trans s3) h3⟩
    refine ⟨p, q, f, x, y, rfl, hp, hq, bx, by', y0, ask.1, fun e H1 s1 t H2 s2 ht => ?_, fun e pp H1 Q1 s1 hpp q1 => ask.2.2 e pp H1 Q1 s1 hpp fun v H2 hR => q1 v H2 fun t H3 s3 ht => ?_⟩
    · obtain ⟨h1, h2, h3, h4⟩ := go _ _ (Nat.le_succ _) (ask.2.1 e H1 s1) t H2 s2 ht
      generalize (x / y).floor = i at *
      walk_at "rd"
      refine r_ixT h1 (atI_nat (j := 2) rfl) ?_
      walk_at "rd"
      obtain ⟨dq, hq1⟩ := id h2
      refine r_meth1 hq1 (no_times _) ?_
      walk_at "rd"
      refine mk_num1 fun u H3 s3 n3 h3' => ?_
      walk_at "rd"
      refine ⟨q, u, y, _, rfl, ⟨_, s3 _ _ hq1⟩, h3', by'.mono (by decide), h3.mono (by decide), trivial, fun t3 H4 s4 n4 h4' => ?_⟩
      exact h4 t3 H4 (s3.trans s4) h4'
    · have bi : (if v = V.bl true then (x / y).floor + 1 else (x / y).floor).natAbs ≤ ((x / y).floor).natAbs + 1 := by split <;> omega
      obtain ⟨h1, h2, h3, h4⟩ := go _ _ bi hR t H3 s3 ht
      generalize (if v = V.bl true then (x / y).floor + 1 else (x / y).floor) = i at *
      walk_at "rd"
      refine r_ixT h1 (atI_nat (j := 2) rfl) ?_
      walk_at "rd"
      obtain ⟨dq, hq1⟩ := id h2
      refine r_meth1 hq1 (no_times _) ?_
      walk_at "rd"
      refine mk_num1 fun u H4 s4 n4 h4' => ?_
      walk_at "rd"
      refine ⟨q, u, y, _, rfl, ⟨_, s4 _ _ hq1⟩, h4', by'.mono (by decide), h3.mono (by decide), trivial, fun t3 H5 s5 n5 h5' => ?_⟩
      exact h4 t3 H5 (s4.trans s5) h5'
end
end My

namespace My
open PySem L2
section
variable {P : Program} {w : World} {K : PySem.W.Frag} {mg : Str → Option Value} {base : Heap}
theorem floor_bd900 {x y : Rat} (bx : Bd 900 x) (by' : Bd 900 y) (y0 : y ≠ 0) : (x / y).floor.natAbs < 2 ^ 1800 ∧ (highQ (x / y)).natAbs < 2 ^ 1801 := by
  have bn : Bd 1800 (x / y) := Bd.div bx by' y0
  have h := floor_bd bn
  refine ⟨h, ?_⟩
  have e : (2 : Nat) ^ 1801 = 2 ^ 1800 * 2 := Nat.pow_succ ..
  have p : 0 < (2 : Nat) ^ 1800 := Nat.two_pow_pos _
  unfold highQ
  split
  · rw [e]; omega
  · rw [e]; omega
def spNeigh (C : Addr) : Sp := fun vs H Q _ => ∃ (p s : Addr) (x y : Rat), vs = [.ref p, .ref s] ∧ NumAt C H p x ∧ NumAt C H s y ∧ Bd 900 x ∧ Bd 900 y ∧ y ≠ 0 ∧
  ∀ (t u v : Addr) (H' : Hp), Same H H' → H' t = some (.tup [.ref u, .ref v]) → NumAt C H' u (y * ((x / y).floor : Rat)) → NumAt C H' v (y * (highQ (x / y) : Rat)) → Q (.ref t) H'
theorem ok_neighbours (T : Txt w K mg) : FnOk P w K mg base CX0 5 T.f_neighbours T.fd_neighbours ["number", "step"] (spNeigh T.C_Number) := by
  refine T.F_neighbours.ok sc_neighbours (fun vs H Q E h => ?_) (fun cdv A outer s H vs Q E hr h => ?_)
  · obtain ⟨p, q, x, y, rfl, _⟩ := h
    rfl
  · obtain ⟨p, q, x, y, rfl, ⟨dx, hp⟩, ⟨dy, hq⟩, bx, by', y0, k⟩ := h
    refine ⟨_, (pss_cons (ps_asg (pe_call (ok_place_of T) (hr.mono (by decide)) (by rfl) T.m_place_of T.F_place_of.kp T.b_place_of .nil pass0 (pa_cons (pv 0) (pa_cons (pv 1) pa_nil))) (pg_tup rfl (pgs_cons (pg_name (i := 2) sc_neighbours.nd rfl (Or.inl rfl)) (pgs_cons (pg_name (i := 3) sc_neighbours.nd rfl (Or.inl rfl)) (pgs_cons (pg_name (i := 4) sc_neighbours.nd rfl (Or.inl rfl)) pgs_nil)))))
 (pss_one (ps_ret (pe_tup (pa_cons (pe_meth (pv 1) T.c_Number T.me_Number_times (ok_Number_times T) (hr.mono (by decide)) T.b_Number_times .nil pass0 (pa_cons (pe_make T.mk_Number (ok_Number_init T) (hr.mono (by decide)) (by rfl) T.m_Number T.b_Number_init1 T.d_Number_init1 pass0 (pa_cons (pv 2) pa_nil)) pa_nil)) (pa_cons (pe_meth (pv 1) T.c_Number T.me_Number_times (ok_Number_times T) (hr.mono (by decide)) T.b_Number_times .nil pass0 (pa_cons (pe_make T.mk_Number (ok_Number_init T) (hr.mono (by decide)) (by rfl) T.m_Number T.b_Number_init1 T.d_Number_init1 pass0 (pa_cons (pv 3) pa_nil)) pa_nil)) pa_nil)))))), ?_⟩
    obtain ⟨fb, hb⟩ := floor_bd900 bx by' y0
    walk_at "rdg"
    refine ⟨p, q, x, y, rfl, ⟨_, hp⟩, ⟨_, hq⟩, bx, by', y0, fun t pp H1 s1 h1 hpp => ?_⟩
    refine r_gTup h1 rfl ?_
    walk_at "rdg"
    refine r_meth1 (s1 _ _ hq) (no_times _) ?_
    walk_at "rdg"
    refine mk_num1 fun u H2 s2 n2 h2 => ?_
    walk_at "rdg"
    refine ⟨q, u, y, ((x / y).floor : Rat), rfl, ⟨_, s2 _ _ (s1 _ _ hq)⟩, h2, by'.mono (by decide), (Bd.int fb (by decide)).mono (by decide), trivial, fun a H3 s3 n3 h3 => ?_⟩
    walk_at "rdg"
    have s13 := (s1.trans s2).trans s3
    refine r_meth1 (s13 _ _ hq) (no_times _) ?_
    walk_at "rdg"
    refine mk_num1 fun v H4 s4 n4 h4 => ?_
    walk_at "rdg"
    refine ⟨q, v, y, (highQ (x / y) : Rat), rfl, ⟨_, s4 _ _ (s13 _ _ hq)⟩, h4, by'.mono (by decide), (Bd.int hb (by decide)).mono (by decide), trivial, fun b H5 s5 n5 h5 => ?_⟩
    walk_at "rdg"
    refine r_new (by show 2 ≤ 1000; decide) fun tp htp => ?_
    have s6 := Same.new (o := .tup [.ref a, .ref b]) htp
    exact k tp a b _ (((s13.trans s4).trans s5).trans s6) upd_same (((h3.same s4).same s5).same s6) (h5.same s6)
end
end My

namespace My
open PySem L2 LamX NdefX
/-! ### the law's own way, as a function of count and part -/
abbrev s_l_told : Stmt := (defBody s_l_function).getD 0 (.Pass ⟨0, 0, 0, 0⟩)
def q_told : Str := ("_law_function" : Str) ++ ".<locals>." ++ "_law_told"
def nm_told : Nat → Nat → Str := fun _ _ => q_told
theorem sc_l_told : NScope ["_law_count", "_law_part", "_law_rule", "_law_twice"] ["_law_count", "_law_part"] ["_law_rule"] (C8.fnScope s_l_told) := nscope_by (by decide +kernel)
abbrev F_told (cl : List (Str × Addr)) (c : Addr) : NF := NF.of s_l_told "_law_told" q_told cl c
theorem free_told : ∀ z ∈ (C8.fnScope s_l_told).names, z.2 = .free → z.1 = "_law_rule" := by decide +kernel
theorem has_told : (("_law_rule" : Str), NameKind.free) ∈ (C8.fnScope s_l_told).names := by decide +kernel
def isHL : Way → Bool
  | .high => true | .low => true | _ => false
def isUD : Way → Bool
  | .up => true | .down => true | _ => false
def isHUD : Way → Bool
  | .hup => true | .hdown => true | _ => false
theorem in_HL (r : Way) : inV (.str (wname r)) [.str "high", .str "low"] = isHL r := by cases r <;> decide +kernel
theorem in_UD (r : Way) : inV (.str (wname r)) [.str "up", .str "down"] = isUD r := by cases r <;> decide +kernel
theorem in_HUD (r : Way) : inV (.str (wname r)) [.str "half up", .str "half down"] = isHUD r := by cases r <;> decide +kernel
theorem rule_HL {r : Way} (h : isHL r = true) (l : Int) (q : Rat) : decide (wname r = "high") = ruleB r l q := by
  cases r <;> first | (cases h; done) | (show decide _ = _; decide +kernel) | skip
  all_goals first | (show _ = true; decide +kernel) | (show _ = false; decide +kernel)
theorem rule_UD {r : Way} (h : isUD r = true) (l : Int) (q : Rat) : decide (decide (0 ≤ l) = decide (wname r = "up")) = ruleB r l q := by
  have e1 : decide (wname .up = "up") = true := by decide +kernel
  have e2 : decide (wname .down = "up") = false := by decide +kernel
  cases r <;> first | (cases h; done) | skip
  · rw [e1]
    show _ = decide (0 ≤ l)
    by_cases z : 0 ≤ l <;> simp [z]
  · rw [e2]
    show _ = decide (l < 0)
    by_cases z : 0 ≤ l
    · have : ¬ l < 0 := by omega
      simp [z, this]
    · have : l < 0 := by omega
      simp [z, this]
theorem rule_half {r : Way} (h1 : isHL r = false) (h2 : isUD r = false) (l : Int) {q : Rat} (z : 2 * q.num ≠ (q.den : Int)) : decide (0 < 2 * q.num - (q.den : Int)) = ruleB r l q := by
  have e : ∀ a, nearerB q a = decide ((q.den : Int) < 2 * q.num) := fun a => by unfold nearerB; rw [if_neg z]
  have e2 : decide (0 < 2 * q.num - (q.den : Int)) = decide ((q.den : Int) < 2 * q.num) := by
    by_cases y : (q.den : Int) < 2 * q.num
    · rw [decide_eq_true y, decide_eq_true (by omega)]
    · rw [decide_eq_false y, decide_eq_false (by omega)]
  rw [e2]
  cases r <;> first | (cases h1; done) | (cases h2; done) | exact (e _).symm
theorem rule_HUD {r : Way} (h : isHUD r = true) (l : Int) {q : Rat} (z : 2 * q.num = (q.den : Int)) : decide (decide (0 ≤ l) = decide (wname r = "half up")) = ruleB r l q := by
  have e1 : decide (wname .hup = "half up") = true := by decide +kernel
  have e2 : decide (wname .hdown = "half up") = false := by decide +kernel
  have e : ∀ a, nearerB q a = a := fun a => by unfold nearerB; rw [if_pos z]
  cases r <;> first | (cases h; done) | skip
  · rw [e1]
    show _ = nearerB q (decide (0 ≤ l))
    rw [e]
    by_cases z : 0 ≤ l <;> simp [z]
  · rw [e2]
    show _ = nearerB q (decide (l < 0))
    rw [e]
    by_cases z : 0 ≤ l
    · have : ¬ l < 0 := by omega
      simp [z, this]
    · have : l < 0 := by omega
      simp [z, this]
theorem rule_EO {r : Way} (h1 : isHL r = false) (h2 : isUD r = false) (h3 : isHUD r = false) (l : Int) {q : Rat} (z : 2 * q.num = (q.den : Int)) : decide (decide (l % 2 = 0) = decide (wname r = "half odd")) = ruleB r l q := by
  have e1 : decide (wname .hodd = "half odd") = true := by decide +kernel
  have e2 : decide (wname .heven = "half odd") = false := by decide +kernel
  have e : ∀ a, nearerB q a = a := fun a => by unfold nearerB; rw [if_pos z]
  cases r <;> first | (cases h1; done) | (cases h2; done) | (cases h3; done) | skip
  · rw [e2]
    show _ = nearerB q (decide (l % 2 = 1))
    rw [e]
    by_cases z : l % 2 = 0
    · have : ¬ l % 2 = 1 := by omega
      simp [z]
    · have : l % 2 = 1 := by omega
      simp [this]
  · rw [e1]
    show _ = nearerB q (decide (l % 2 = 0))
    rw [e]
    by_cases z : l % 2 = 0 <;> simp [z]
section
variable {P : Program} {w : World} {K : PySem.W.Frag} {mg : Str → Option Value} {base : Heap}
def spTold (C : Addr) (ws : List (Option V)) : Sp := fun vs H Q _ => ∃ (r : Way) (lo : Int) (pp : Addr) (q : Rat), ws = [some (.str (wname r))] ∧ vs = [.int lo, .ref pp] ∧ NumAt C H pp q ∧ ∀ H1 : Hp, Same H H1 → Q (.bl (ruleB r lo q)) H1
theorem nok_told (T : Txt w K mg) (f : Addr) (cl : List (Str × Addr)) (c : Addr) : NOk P w K mg base CX0 1 f (F_told cl c) ["_law_count", "_law_part"] ["_law_rule"] (spTold T.C_Number) := by
  refine nok_of sc_l_told (fun doc pm ctv us h => match us, h with | [_, _], _ => rfl) (fun ws vs H Q E h => ?_) (fun A outer s H vs ws Q E hr hf hc hw h => ?_)
  · obtain ⟨r, lo, pp, q, _, rfl, _⟩ := h
    rfl
  · obtain ⟨r, lo, pp, q, rfl, rfl, ⟨dx, hp⟩, k⟩ := h
    have cN := T.c_Number
    have nT := T.n_Number_top
    have nB := T.n_Number_bottom
    refine ⟨_, (pss_cons (ps_set (i := 3) sc_l_told.nd rfl (Or.inl rfl) (pe_op op_sub (pe_op op_mul pe_int (pe_fld (pv 1) rfl)) (pe_fld (pv 1) rfl)))
 (pss_cons (ps_if (pt_cmpR op_in_seq (pv 2) (pe_tup (pa_cons pe_str (pa_cons pe_str pa_nil))) (by rfl))
  (pss_one (ps_ret (pe_cmpR op_eq (pv 2) pe_str (nomark _))))
  pss_nil)
 (pss_cons (ps_if (pt_cmpR op_in_seq (pv 2) (pe_tup (pa_cons pe_str (pa_cons pe_str pa_nil))) (by rfl))
  (pss_one (ps_ret (pe_cmpR op_eq (pe_cmpR op_ge (pv 0) pe_int (nomark _)) (pe_cmpR op_eq (pv 2) pe_str (nomark _)) (nomark _))))
  pss_nil)
 (pss_cons (ps_if (pt_cmpR op_ne (pv 3) pe_int (nomark _))
  (pss_one (ps_ret (pe_cmpR op_gt (pv 3) pe_int (nomark _))))
  pss_nil)
 (pss_cons (ps_if (pt_cmpR op_in_seq (pv 2) (pe_tup (pa_cons pe_str (pa_cons pe_str pa_nil))) (by rfl))
  (pss_one (ps_ret (pe_cmpR op_eq (pe_cmpR op_ge (pv 0) pe_int (nomark _)) (pe_cmpR op_eq (pv 2) pe_str (nomark _)) (nomark _))))
  pss_nil)
 (pss_one (ps_ret (pe_cmpR op_eq (pe_cmpR op_eq (pe_op op_mod (pv 0) pe_int) pe_int (nomark _)) (pe_cmpR op_eq (pv 2) pe_str (nomark _)) (nomark _))))))))), ?_⟩
    walk_at "rdf"
    refine r_new (by show 2 ≤ 1000; decide) fun t1 h1 => ?_
    have s1 := Same.new (o := .tup [.str "high", .str "low"]) h1
    refine r_inT upd_same rfl rfl (in_HL r) ?_
    generalize upd H t1 (.tup [.str "high", .str "low"]) = H1 at *
    walk_at "rdh"
    refine r_ite (fun a1 => ?_) (fun a1 => ?_)
    · walk_at "rdh"
      rw [rule_HL a1 lo q]
      exact k _ s1
    walk_at "rdh"
    refine r_new (by show 2 ≤ 1000; decide) fun t2 h2 => ?_
    have s2 := Same.new (o := .tup [.str "up", .str "down"]) h2
    refine r_inT upd_same rfl rfl (in_UD r) ?_
    generalize upd H1 t2 (.tup [.str "up", .str "down"]) = H2 at *
    walk_at "rdh"
    refine r_ite (fun a2 => ?_) (fun a2 => ?_)
    · walk_at "rdh"
      rw [rule_UD a2 lo q]
      exact k _ (s1.trans s2)
    walk_at "rdh"
    refine r_ite (fun a3 => ?_) (fun a3 => ?_)
    · walk_at "rdh"
      rw [rule_half a1 a2 lo (by have : ¬ 2 * q.num - (q.den : Int) = 0 := by simpa using a3
                                 omega)]
      exact k _ (s1.trans s2)
    have z : 2 * q.num = (q.den : Int) := by
      have : 2 * q.num - (q.den : Int) = 0 := by simpa using a3
      omega
    walk_at "rdh"
    refine r_new (by show 2 ≤ 1000; decide) fun t3 h3 => ?_
    have s3 := Same.new (o := .tup [.str "half up", .str "half down"]) h3
    refine r_inT upd_same rfl rfl (in_HUD r) ?_
    generalize upd H2 t3 (.tup [.str "half up", .str "half down"]) = H3 at *
    walk_at "rdh"
    refine r_ite (fun a4 => ?_) (fun a4 => ?_)
    · walk_at "rdh"
      rw [rule_HUD a4 lo z]
      exact k _ ((s1.trans s2).trans s3)
    · walk_at "rdh"
      rw [rule_EO a1 a2 a4 lo z]
      exact k _ ((s1.trans s2).trans s3)
/-- rounded by the law's own way -/
theorem ask_round (T : Txt w K mg) {f : Addr} {r : Way} {cl : List (Str × Addr)} {c : Addr} {x y : Rat} {H : Hp} {R : Int → Hp → Prop} (A : CloAt H f (F_told cl c) ["_law_rule"] [.str (wname r)])
    (q : ∀ H', Same H H' → R (takenQ r (x / y)) H') : AskR P w K mg base T.C_Number f x y H R := by
  refine ⟨⟨_, A.fn⟩, fun e H' s => ?_, fun e pp H1 Q s hpp q1 => ?_⟩
  · have := q H' s
    unfold takenQ at this
    rw [if_pos e] at this
    exact this
  · have C := A.same s
    refine ⟨_, _, _, _, _, nok_told T f cl c, C, r, _, pp, partQ (x / y), rfl, rfl, ?_, fun H2 s2 _ => q1 _ _ ?_⟩
    · obtain ⟨dx, hp⟩ := hpp
      exact ⟨dx, hide_of C hp fun v z => by unfold CellO at z; cases z⟩
    · have sm : Same H (mixC (F_told cl c) H1 H2) := fun b o e => mix_keep (fun e' => s2 _ _ e') (s _ _ e)
      have := q _ sm
      unfold takenQ at this
      rw [if_neg e] at this
      by_cases z : ruleB r (x / y).floor (partQ (x / y)) = true
      · rw [if_pos z] at this
        rw [if_pos (by rw [z])]
        exact this
      · rw [if_neg z] at this
        rw [if_neg (fun y => z (by injection y))]
        exact this
def spMaker (T0 : Addr) : Sp := fun vs H Q _ => ∃ (t : V), vs = [t] ∧ TabsN [(T0, nm_told)] H ∧
  ∀ (f : Addr) (cl : List (Str × Addr)) (c' : Addr) (H' : Hp), ExtN H H' → TabsN [(T0, nm_told)] H' → CloAt H' f (F_told cl c') ["_law_rule"] [t] → Q (.ref f) H'
theorem ok_l_function (T : Txt w K mg) (TB : TabB base mg T.cc_M T.tt_M) : FnOk P w K mg base CX0 1 T.f_l_function T.fd_l_function ["_law_rule"] (spMaker T.tt_M) := by
  obtain ⟨oc, dV, kV, doc, pm, ct, od, an, osl, hfd, look, code⟩ := T.lk_M
  refine maker_by (st1 := s_l_told) hfd look code sc_l_function (fun vs H Q E h => ?_) rfl (fun A outer s H vs Q E hr h => ?_)
  · obtain ⟨t, rfl, _⟩ := h
    rfl
  · obtain ⟨t, rfl, hT, q⟩ := h
    have l1 : (cellsFrom (s.heap.objs.size + 1) (defScope s_l_function).names []).lookup ("_law_rule" : Str) = some (s.heap.objs.size + 1) := rfl
    have hfr : ∀ y ∈ (C8.fnScope s_l_told).names, y.2 = .free → ∃ c, (cellsFrom (s.heap.objs.size + 1) (defScope s_l_function).names []).lookup y.1 = some c := fun y hy e => by
      rw [free_told y hy e]
      exact ⟨_, l1⟩
    refine ⟨_, _, ps_ndefS (st := s_l_told) (T := [(T.tt_M, nm_told)]) (i := 1) rfl TB rfl (List.mem_singleton.mpr rfl) rfl (fun p hp _ => by rw [List.mem_singleton.mp hp]) (fun y hy e => ?_) rfl rfl rfl sc_l_function.nd rfl (Or.inl rfl) (Or.inl rfl), pv 1, ?_⟩
    · rw [free_told y hy e]
      exact .inl rfl
    refine ⟨hT, fun f c' H1 e1 t1 f0 hf hc => ?_⟩
    refine ⟨.ref f, rfl, fun H3 on => ?_⟩
    have k1 := on.at_ "_law_rule" _ 0 t l1 rfl rfl rfl
    have ym : ∀ {z : Str} {c : Addr}, (cloFrom (cellsFrom (s.heap.objs.size + 1) (defScope s_l_function).names []) (C8.fnScope s_l_told).names []).lookup z = some c → z = "_law_rule" := fun {z c} e => by
      rcases cloFrom_mem (PySem.mem_of_lookup e) with hm | ⟨h1, _⟩
      · cases hm
      · exact free_told _ h1 rfl
    refine q f (cloFrom (cellsFrom (s.heap.objs.size + 1) (defScope s_l_function).names []) (C8.fnScope s_l_told).names []) c' H3 (fun b o e n => on.keep _ _ (e1 b o e n)) (t1.ext on.keep) ⟨on.keep _ _ hf, on.keep _ _ hc, rfl, fun y c e => ?_, fun x y c e1 e2 => ?_, fun i y e => ?_, by decide⟩
    · have e' := clo_cm hfr e
      obtain rfl := ym e
      rw [l1] at e'
      cases e'
      exact ⟨0, _, rfl, rfl, k1⟩
    · rw [ym e1, ym e2]
    · match i with
      | 0 => cases e; exact ⟨_, clo_has hfr has_told l1⟩
      | i + 1 => simp at e
end
end My

namespace My
open PySem L2 LamX NdefX
theorem tabs_same {T : List NTab} {H H' : Hp} (t : TabsN T H) (s : Same H H') : TabsN T H' := t.ext s
theorem NumAt.extN {C p : Addr} {H H' : Hp} {x : Rat} (h : NumAt C H p x) (s : ExtN H H') : NumAt C H' p x := let ⟨dx, e⟩ := h; ⟨dx, s _ _ e fun ps z => by cases z⟩
theorem starts_half85 (r : Way) : Txt.startswith (wname r) "half" = isHalf r := by cases r <;> decide +kernel
theorem in_Z (r : Way) : inV (.str (wname r)) [.str "up", .str "down", .str "half up", .str "half down"] = isZ r := by cases r <;> decide +kernel
theorem turn_get (r : Way) : (valV (mergeK [] [((.inr "high" : Key), V.str "low"), (.inr "low", V.str "high")]) (.inr (wname r))).getD (.str (wname r)) = .str (wname (turnW r)) := by cases r <;> decide +kernel
section
variable {P : Program} {w : World} {K : PySem.W.Frag} {mg : Str → Option Value} {base : Heap}
def spOne (C T0 : Addr) : Sp := fun vs H Q _ => ∃ (p s : Addr) (r : Way) (m : Int) (x y : Rat), vs = [.ref p, .ref s, .str (wname r), .int m] ∧ NumAt C H p x ∧ NumAt C H s y ∧ Bd 300 x ∧ Bd 120 y ∧ 0 < y ∧ (1 ≤ m ∧ m ≤ 50) ∧
  TabsN [(T0, nm_told)] H ∧ ∀ (H' : Hp), ExtN H H' → TabsN [(T0, nm_told)] H' → Q (.bl true) H'
theorem ok_l_one_right (T : Txt w K mg) (TB : TabB base mg T.cc_M T.tt_M) : FnOk P w K mg base CX0 7 T.f_l_one_right T.fd_l_one_right ["_law_here", "_law_unit_step", "_law_rule", "_law_more"] (spOne T.C_Number T.tt_M) := by
  refine T.F_l_one_right.ok sc_l_one_right (fun vs H Q E h => ?_) (fun cdv A outer s H vs Q E hr h => ?_)
  · obtain ⟨p, s, r, m, x, y, rfl, _⟩ := h
    rfl
  · obtain ⟨p, s', r, m, x, y, rfl, hp, hs, bx, by', y0, hm, tabs, k⟩ := h
    have y0' : y ≠ 0 := by grind
    have bx9 := bx.mono (show 300 ≤ 900 by decide)
    have by9 := by'.mono (show 120 ≤ 900 by decide)
    have bd : Bd 420 (x / y) := Bd.div bx by' y0'
    have tb : ∀ r', Bd 421 (takenQ r' (x / y) : Rat) := fun r' => Bd.int (taken_bd bd) (by decide)
    have bf : Bd 541 (y * (takenQ r (x / y) : Rat)) := Bd.mul by' (tb r)
    have fb : Bd 541 (y * ((x / y).floor : Rat)) := (Bd.mul by' (Bd.int (n := 421) (Nat.lt_trans (floor_bd bd) (Nat.pow_lt_pow_right (by decide) (by decide))) (by decide))).mono (by decide)
    have hb : Bd 541 (y * (highQ (x / y) : Rat)) := by
      rw [show highQ (x / y) = takenQ .high (x / y) from by
        unfold highQ takenQ
        split
        · rfl
        · exact (if_pos rfl).symm]
      exact Bd.mul by' (tb .high)
    have M1 := taken_between r (x / y)
    have M1a : ¬ y * (takenQ r (x / y) : Rat) < y * ((x / y).floor : Rat) := fun z => by have := mul_mono y0 M1.1; grind
    have M1b : ¬ y * (highQ (x / y) : Rat) < y * (takenQ r (x / y) : Rat) := fun z => by have := mul_mono y0 M1.2; grind
    have M2 := step_within (r := r) (n := x) y0
    have M4 := neg_round r (x := x) (y := y)
    have bd1 : Bd 842 (x - y * (takenQ r (x / y) : Rat)) := Bd.sub bx bf |>.mono (by decide)
    refine ⟨_, (pss_cons (ps_set (i := 4) sc_l_one_right.nd rfl (Or.inl rfl) (pe_callN (ok_rounded T) (hr.mono (by decide)) (by rfl) T.m_rounded T.F_rounded.kp T.kb_rounded pass0 (pa_cons (pv 0) (pa_cons (pv 1) pa_nil)) (pk_cons (pv 2) pk_nil)))
 (pss_cons (ps_asg (pe_call (ok_neighbours T) (hr.mono (by decide)) (by rfl) T.m_neighbours T.F_neighbours.kp T.b_neighbours .nil pass0 (pa_cons (pv 0) (pa_cons (pv 1) pa_nil))) (pg_tup rfl (pgs_cons (pg_name (i := 5) sc_l_one_right.nd rfl (Or.inl rfl)) (pgs_cons (pg_name (i := 6) sc_l_one_right.nd rfl (Or.inl rfl)) pgs_nil))))
 (pss_cons (ps_if (PW.pt (pw_or (pt_val (pe_meth (pv 4) T.c_Number T.me_Number_below (ok_Number_below T) (hr.mono (by decide)) T.b_Number_below .nil pass0 (pa_cons (pv 5) pa_nil))) (pw_or (pt_val (pe_meth (pv 6) T.c_Number T.me_Number_below (ok_Number_below T) (hr.mono (by decide)) T.b_Number_below .nil pass0 (pa_cons (pv 4) pa_nil))) (pw_or1 (pt_not (pt_val (pe_meth (pe_meth0 (pe_meth (pv 0) T.c_Number T.me_Number_less (ok_Number_less T) (hr.mono (by decide)) T.b_Number_less .nil pass0 (pa_cons (pv 4) pa_nil)) T.c_Number T.me_Number_size (ok_Number_size T) (hr.mono (by decide)) T.b_Number_size .nil pass0) T.c_Number T.me_Number_below (ok_Number_below T) (hr.mono (by decide)) T.b_Number_below .nil pass0 (pa_cons (pv 1) pa_nil))))))))
  (pss_one (ps_ret pe_bl))
  pss_nil)
 (C8.pss_cut (ps_if (PW.pt (pw_and (pt_val (pe_m1 PySem.F.slot_str_startswith PySem.F.type_str_startswith mt_startswith (pv 2) pe_str)) (pw_and1 (pt_val (pe_meth (pv 1) T.c_Number T.me_Number_below (ok_Number_below T) (hr.mono (by decide)) T.b_Number_below .nil pass0 (pa_cons (pe_meth (pe_meth0 (pe_meth (pv 0) T.c_Number T.me_Number_less (ok_Number_less T) (hr.mono (by decide)) T.b_Number_less .nil pass0 (pa_cons (pv 4) pa_nil)) T.c_Number T.me_Number_size (ok_Number_size T) (hr.mono (by decide)) T.b_Number_size .nil pass0) T.c_Number T.me_Number_times (ok_Number_times T) (hr.mono (by decide)) T.b_Number_times .nil pass0 (pa_cons (pe_make T.mk_Number (ok_Number_init T) (hr.mono (by decide)) (by rfl) T.m_Number T.b_Number_init1 T.d_Number_init1 pass0 (pa_cons pe_int pa_nil)) pa_nil)) pa_nil))))))
  (pss_one (ps_ret pe_bl))
  pss_nil)
 (pss_cons (ps_if (pt_not (pt_cmpR (op_eqOwn (ok_Number_eq T) T.me_Number_eq.at_ T.me_Number_eq.fn T.b_Number_eq (hr.mono (by decide))) (pe_callN (ok_roundedF T) (hr.mono (by decide)) (by rfl) T.m_rounded T.F_rounded.kp T.kb_rounded pass0 (pa_cons (pv 0) (pa_cons (pv 1) pa_nil)) (pk_cons (pe_call (ok_l_function T TB) (hr.mono (by decide)) (by rfl) T.m_l_function T.F_l_function.kp T.b_l_function .nil pass0 (pa_cons (pv 2) pa_nil)) pk_nil)) (pv 4) (nomark _)))
  (pss_one (ps_ret pe_bl))
  pss_nil)
 (pss_cons (ps_set (i := 7) sc_l_one_right.nd rfl (Or.inl rfl) (pe_dget2 (Nat.lt_of_le_of_lt (Nat.add_le_add_left (by decide) _) hr.units) (pe_disp (pps_cons pe_str pe_str (pps_cons pe_str pe_str pps_nil)) rfl rfl (by simp) (by decide)) (pv 2) (pv 2) ⟨rfl, rfl, rfl, rfl⟩))
 (pss_cons (ps_if (pt_not (pt_cmpR (op_eqOwn (ok_Number_eq T) T.me_Number_eq.at_ T.me_Number_eq.fn T.b_Number_eq (hr.mono (by decide))) (pe_callN (ok_rounded T) (hr.mono (by decide)) (by rfl) T.m_rounded T.F_rounded.kp T.kb_rounded pass0 (pa_cons (pe_meth (pe_make T.mk_Number (ok_Number_init T) (hr.mono (by decide)) (by rfl) T.m_Number T.b_Number_init1 T.d_Number_init1 pass0 (pa_cons pe_int pa_nil)) T.c_Number T.me_Number_less (ok_Number_less T) (hr.mono (by decide)) T.b_Number_less .nil pass0 (pa_cons (pv 0) pa_nil)) (pa_cons (pv 1) pa_nil)) (pk_cons (pv 7) pk_nil)) (pe_meth (pe_make T.mk_Number (ok_Number_init T) (hr.mono (by decide)) (by rfl) T.m_Number T.b_Number_init1 T.d_Number_init1 pass0 (pa_cons pe_int pa_nil)) T.c_Number T.me_Number_less (ok_Number_less T) (hr.mono (by decide)) T.b_Number_less .nil pass0 (pa_cons (pv 4) pa_nil)) (nomark _)))
  (pss_one (ps_ret pe_bl))
  pss_nil)
 (pss_cons (ps_set (i := 8) sc_l_one_right.nd rfl (Or.inl rfl) (pe_make T.mk_Number (ok_Number_init T) (hr.mono (by decide)) (by rfl) T.m_Number T.b_Number_init1 T.d_Number_init1 pass0 (pa_cons (pe_op op_add pe_int (pe_op op_mod (pv 3) pe_int)) pa_nil)))
 (pss_cons (ps_if (pt_not (pt_cmpR (op_eqOwn (ok_Number_eq T) T.me_Number_eq.at_ T.me_Number_eq.fn T.b_Number_eq (hr.mono (by decide))) (pe_callN (ok_rounded T) (hr.mono (by decide)) (by rfl) T.m_rounded T.F_rounded.kp T.kb_rounded pass0 (pa_cons (pe_meth (pv 0) T.c_Number T.me_Number_times (ok_Number_times T) (hr.mono (by decide)) T.b_Number_times .nil pass0 (pa_cons (pv 8) pa_nil)) (pa_cons (pe_meth (pv 1) T.c_Number T.me_Number_times (ok_Number_times T) (hr.mono (by decide)) T.b_Number_times .nil pass0 (pa_cons (pv 8) pa_nil)) pa_nil)) (pk_cons (pv 2) pk_nil)) (pe_meth (pv 4) T.c_Number T.me_Number_times (ok_Number_times T) (hr.mono (by decide)) T.b_Number_times .nil pass0 (pa_cons (pv 8) pa_nil)) (nomark _)))
  (pss_one (ps_ret pe_bl))
  pss_nil)
 (pss_cons (ps_set (i := 9) sc_l_one_right.nd rfl (Or.inl rfl) (pe_meth (pv 1) T.c_Number T.me_Number_times (ok_Number_times T) (hr.mono (by decide)) T.b_Number_times .nil pass0 (pa_cons (pe_make T.mk_Number (ok_Number_init T) (hr.mono (by decide)) (by rfl) T.m_Number T.b_Number_init1 T.d_Number_init1 pass0 (pa_cons (pe_op op_mul pe_int (pv 3)) pa_nil)) pa_nil)))
 (C8.pss_cut (ps_if (PW.pt (pw_and (pt_cmpR op_in_seq (pv 2) (pe_tup (pa_cons pe_str (pa_cons pe_str (pa_cons pe_str (pa_cons pe_str pa_nil))))) (by rfl)) (pw_and1 (pt_val (pe_meth (pv 0) T.c_Number T.me_Number_below (ok_Number_below T) (hr.mono (by decide)) T.b_Number_below .nil pass0 (pa_cons (pe_make T.mk_Number (ok_Number_init T) (hr.mono (by decide)) (by rfl) T.m_Number T.b_Number_init1 T.d_Number_init1 pass0 (pa_cons pe_int pa_nil)) pa_nil))))))
  (pss_one (ps_ret pe_bl))
  pss_nil)
 (pss_one (ps_ret (pe_cmpR (op_eqOwn (ok_Number_eq T) T.me_Number_eq.at_ T.me_Number_eq.fn T.b_Number_eq (hr.mono (by decide))) (pe_callN (ok_rounded T) (hr.mono (by decide)) (by rfl) T.m_rounded T.F_rounded.kp T.kb_rounded pass0 (pa_cons (pe_meth (pv 0) T.c_Number T.me_Number_more (ok_Number_more T) (hr.mono (by decide)) T.b_Number_more .nil pass0 (pa_cons (pv 9) pa_nil)) (pa_cons (pv 1) pa_nil)) (pk_cons (pv 2) pk_nil)) (pe_meth (pv 4) T.c_Number T.me_Number_more (ok_Number_more T) (hr.mono (by decide)) T.b_Number_more .nil pass0 (pa_cons (pv 9) pa_nil)) (nomark _))))))))))))))), ?_⟩
    walk_at "rdh"
    refine rd_rounded hp hs bx9 by9 y0' fun fo H1 s1 hf => ?_
    walk_at "rdh"
    refine ⟨p, s', x, y, rfl, hp.same s1, hs.same s1, bx9, by9, y0', fun t u v H2 s2 ht hu hv => ?_⟩
    refine r_gTup ht rfl ?_
    have s12 := s1.trans s2
    have hf2 := hf.same s2
    have hp2 := hp.same s12
    have hs2 := hs.same s12
    generalize hF : y * (takenQ r (x / y) : Rat) = f at *
    walk_at "rdh"
    obtain ⟨df, ef⟩ := id hf2
    refine r_meth1 ef (no_below _) ?_
    walk_at "rdh"
    refine ⟨fo, u, _, _, rfl, hf2, hu, bf.mono (by decide), fb.mono (by decide), ?_⟩
    rw [decide_eq_false M1a]
    walk_at "rdh"
    refine r_iteF rfl ?_
    walk_at "rdh"
    obtain ⟨dv, ev⟩ := id hv
    refine r_meth1 ev (no_below _) ?_
    walk_at "rdh"
    refine ⟨v, fo, _, _, rfl, hv, hf2, hb.mono (by decide), bf.mono (by decide), ?_⟩
    rw [decide_eq_false M1b]
    walk_at "rdh"
    refine r_iteF rfl ?_
    walk_at "rdh"
    obtain ⟨dp, ep⟩ := id hp2
    refine r_meth1 ep (no_less _) ?_
    walk_at "rdh"
    refine ⟨p, fo, x, _, rfl, hp2, hf2, bx.mono (by decide), bf.mono (by decide), trivial, fun d1 H3 s3 _ h3 => ?_⟩
    walk_at "rdh"
    obtain ⟨dd, ed⟩ := id h3
    refine r_meth1 ed (no_size _) ?_
    walk_at "rdh"
    refine ⟨d1, _, rfl, h3, bd1.mono (by decide), fun z1 H4 s4 _ h4 => ?_⟩
    walk_at "rdh"
    obtain ⟨dz, ez⟩ := id h4
    refine r_meth1 ez (no_below _) ?_
    walk_at "rdh"
    have s14 := s12.trans (s3.trans s4)
    refine ⟨z1, s', _, y, rfl, h4, hs.same s14, (absQ_bd bd1).mono (by decide), by'.mono (by decide), ?_⟩
    rw [decide_eq_true M2]
    walk_at "rdh"
    refine r_iteF rfl ?_
    walk_at "rdh"
    have hf4 := hf2.same (s3.trans s4)
    refine r_cut (fun σ' H' => σ' = [some (.ref p), some (.ref s'), some (.str (wname r)), some (.int m), some (.ref fo), some (.ref u), some (.ref v), none, none, none] ∧ Same H4 H') ?_ ?_
    · walk_at "rdh"
      refine ⟨_, _, rfl, rfl, ?_⟩
      rw [starts_half85]
      walk_at "rdh"
      refine r_ite (fun e => ?_) (fun e => ?_)
      · walk_at "rdh"
        obtain ⟨ds, es⟩ := hs.same s14
        refine r_meth1 es (no_below _) ?_
        walk_at "rdh"
        obtain ⟨dp, ep⟩ := hp.same s14
        refine r_meth1 ep (no_less _) ?_
        walk_at "rdh"
        refine ⟨p, fo, x, _, rfl, hp.same s14, hf4, bx.mono (by decide), bf.mono (by decide), trivial, fun d2 H5 s5 _ h5 => ?_⟩
        walk_at "rdh"
        obtain ⟨dd, ed⟩ := id h5
        refine r_meth1 ed (no_size _) ?_
        walk_at "rdh"
        refine ⟨d2, _, rfl, h5, bd1.mono (by decide), fun z2 H6 s6 _ h6 => ?_⟩
        walk_at "rdh"
        obtain ⟨dz, ez⟩ := id h6
        refine r_meth1 ez (no_times _) ?_
        walk_at "rdh"
        refine mk_num1 fun c2 H7 s7 _ h7 => ?_
        walk_at "rdh"
        have b2 : Bd 2 ((2 : Int) : Rat) := Bd.int (by decide) (by decide)
        refine ⟨z2, c2, _, _, rfl, h6.same s7, h7, (absQ_bd bd1).mono (by decide), b2.mono (by decide), trivial, fun w2 H8 s8 _ h8 => ?_⟩
        walk_at "rdh"
        have s48 := ((s5.trans s6).trans s7).trans s8
        refine ⟨s', w2, y, _, rfl, hs.same (s14.trans s48), h8, by'.mono (by decide), (Bd.mul (absQ_bd bd1) b2).mono (by decide), ?_⟩
        have M3 : ¬ y < absQ (x - f) * ((2 : Int) : Rat) := by rw [← hF]; exact half_within e y0
        rw [decide_eq_false M3]
        walk_at "rdh"
        refine r_iteF rfl ?_
        walk_at "rdh"
        exact ⟨rfl, s48⟩
      · refine r_iteF rfl ?_
        walk_at "rdh"
        exact ⟨rfl, Same.refl _⟩
    rintro σ' H5 ⟨rfl, s45⟩
    have s15 := s14.trans s45
    have hf5 := hf4.same s45
    walk_at "rdh"
    refine ⟨.str (wname r), rfl, tabs_same tabs s15, fun fn cl c' H6 x6 tabs6 A6 => ?_⟩
    have hp6 := (hp.same s15).extN x6
    have hs6 := (hs.same s15).extN x6
    have hf6 := hf5.extN x6
    refine ⟨rfl, rfl, p, s', fn, x, y, rfl, hp6, hs6, bx9, by9, y0', ask_round T A6 fun H7 s7 => ⟨hs6.same s7, fun g H8 s8 hg => ?_⟩⟩
    rw [hF] at hg
    have s68 := s7.trans s8
    walk_at "rdh"
    refine r_eqNum hg (hf6.same s68) ?_
    rw [decide_eq_true rfl]
    walk_at "rdh"
    refine r_iteF rfl ?_
    have tabs8 := tabs_same tabs6 s68
    have ext8 : ∀ H9, Same H8 H9 → ExtN H H9 := fun H9 s9 b o e nt => s9 _ _ (s68 _ _ (x6 _ _ (s15 _ _ e) nt))
    have fin : ∀ H9, Same H8 H9 → Q (.bl true) H9 := fun H9 s9 => k H9 (ext8 H9 s9) (tabs_same tabs8 s9)
    have hp8 := hp6.same s68
    have hs8 := hs6.same s68
    have hf8 := hf6.same s68
    clear tabs6 A6 x6
    walk_at "rdh"
    refine r_dget2 ?_
    intro pd hpd
    refine ⟨upd_same, [((.inr "high" : Key), V.str "low"), (.inr "low", V.str "high")], rfl, by decide, pd, rfl, .inl ⟨_, .inl upd_same⟩, ?_⟩
    walk_at "rdh"
    refine ⟨_, DGet.k (k := .inr (wname r)) upd_same, ?_⟩
    rw [turn_get]
    have s9 : Same H8 (upd (upd H8 pd (.dK [])) pd (.dK (mergeK [] [((.inr "high" : Key), V.str "low"), (.inr "low", V.str "high")]))) := Same.dict hpd
    generalize upd (upd H8 pd (.dK [])) pd (.dK (mergeK [] [((.inr "high" : Key), V.str "low"), (.inr "low", V.str "high")])) = H9 at *
    walk_at "rdh"
    have b1 : Bd 1 ((0 : Int) : Rat) := Bd.int (by decide) (by decide)
    have z0 : ((0 : Int) : Rat) = 0 := rfl
    have M5 := neg_round r (x := x) (y := y)
    rw [hF] at M5
    -- by the other sign
    refine mk_num1 fun c0 HA sa _ ha => ?_
    obtain ⟨dc, ec⟩ := id ha
    walk_at "rdh"
    refine r_meth1 ec (no_less _) ?_
    walk_at "rdh"
    refine ⟨c0, p, _, x, rfl, ha, (hp8.same s9).same sa, b1.mono (by decide), bx.mono (by decide), trivial, fun np HB sb _ hnp => ?_⟩
    walk_at "rdh"
    have s8B := (s9.trans sa).trans sb
    refine rd_rounded hnp (hs8.same s8B) ((Bd.sub b1 bx).mono (by decide)) by9 y0' fun nr HC sc _ => ?_
    rename_i hnr
    rw [z0, M5] at hnr
    walk_at "rdh"
    refine mk_num1 fun c1 HD sd _ hd => ?_
    obtain ⟨dc1, ec1⟩ := id hd
    walk_at "rdh"
    refine r_meth1 ec1 (no_less _) ?_
    walk_at "rdh"
    have s8D := (s8B.trans sc).trans sd
    refine ⟨c1, fo, _, _, rfl, hd, hf8.same s8D, b1.mono (by decide), bf.mono (by decide), trivial, fun nf' HE se _ hnf => ?_⟩
    walk_at "rdh"
    refine r_eqNum ((hnr.same sd).same se) hnf ?_
    rw [z0, decide_eq_true rfl]
    walk_at "rdh"
    refine r_iteF rfl ?_
    walk_at "rdh"
    -- so many times as great
    have s8E := s8D.trans se
    have kb : 3 ≤ 3 + m % 5 ∧ 3 + m % 5 ≤ 7 := by omega
    generalize 3 + m % 5 = kk at *
    refine mk_num1 fun ck HF sf _ hk => ?_
    have bk : Bd 4 (kk : Rat) := Bd.int (by omega) (by decide)
    have k0 : (kk : Rat) ≠ 0 := by
      have : (0 : Rat) < (kk : Rat) := Rat.intCast_pos.mpr (by omega)
      grind
    walk_at "rdh"
    obtain ⟨dp, ep⟩ := (hp8.same s8E).same sf
    refine r_meth1 ep (no_times _) ?_
    walk_at "rdh"
    refine ⟨p, ck, x, _, rfl, (hp8.same s8E).same sf, hk, bx.mono (by decide), bk.mono (by decide), trivial, fun xp HG sg _ hxp => ?_⟩
    walk_at "rdh"
    have s8G := (s8E.trans sf).trans sg
    obtain ⟨ds, es⟩ := hs8.same s8G
    refine r_meth1 es (no_times _) ?_
    walk_at "rdh"
    refine ⟨s', ck, y, _, rfl, hs8.same s8G, hk.same sg, by'.mono (by decide), bk.mono (by decide), trivial, fun ys HI si _ hys => ?_⟩
    walk_at "rdh"
    have yk : y * (kk : Rat) ≠ 0 := by grind
    refine rd_rounded (hxp.same si) hys ((Bd.mul bx bk).mono (by decide)) ((Bd.mul by' bk).mono (by decide)) yk fun rk HJ sj hrk => ?_
    rw [scale_round r k0 y0', hF] at hrk
    walk_at "rdh"
    have s8J := (s8G.trans si).trans sj
    obtain ⟨df, ef⟩ := hf8.same s8J
    refine r_meth1 ef (no_times _) ?_
    walk_at "rdh"
    refine ⟨fo, ck, _, _, rfl, hf8.same s8J, ((hk.same sg).same si).same sj, bf.mono (by decide), bk.mono (by decide), trivial, fun fk HK sk _ hfk => ?_⟩
    walk_at "rdh"
    refine r_eqNum (hrk.same sk) hfk ?_
    rw [decide_eq_true rfl]
    walk_at "rdh"
    refine r_iteF rfl ?_
    walk_at "rdh"
    -- so many steps more
    have s8K := s8J.trans sk
    obtain ⟨ds, es⟩ := hs8.same s8K
    refine r_meth1 es (no_times _) ?_
    walk_at "rdh"
    refine mk_num1 fun c2 HL sl _ hl => ?_
    walk_at "rdh"
    have b2 : Bd 8 ((2 * m : Int) : Rat) := Bd.int (by omega) (by decide)
    refine ⟨s', c2, y, _, rfl, (hs8.same s8K).same sl, hl, by'.mono (by decide), b2.mono (by decide), trivial, fun fa HM sm _ hfa => ?_⟩
    walk_at "rdh"
    have s8M := (s8K.trans sl).trans sm
    refine r_cut (fun σ' H' => (∃ v7 v8 : Option V, σ' = [some (.ref p), some (.ref s'), some (.str (wname r)), some (.int m), some (.ref fo), some (.ref u), some (.ref v), v7, v8, some (.ref fa)]) ∧ Same HM H' ∧ (isZ r = true → 0 ≤ x)) ?_ ?_
    · walk_at "rdh"
      refine r_new (by show 4 ≤ 1000; decide) fun t4 h4' => ?_
      have sn := Same.new (o := .tup [.str "up", .str "down", .str "half up", .str "half down"]) h4'
      refine r_inT upd_same rfl rfl (in_Z r) ?_
      generalize upd HM t4 (.tup [.str "up", .str "down", .str "half up", .str "half down"]) = HN at *
      have s8N := s8M.trans sn
      walk_at "rdh"
      refine r_ite (fun e => ?_) (fun e => ?_)
      · walk_at "rdh"
        obtain ⟨dp, ep⟩ := hp8.same s8N
        refine r_meth1 ep (no_below _) ?_
        walk_at "rdh"
        refine mk_num1 fun c3 HO so _ ho => ?_
        walk_at "rdh"
        refine ⟨p, c3, x, _, rfl, (hp8.same s8N).same so, ho, bx.mono (by decide), b1.mono (by decide), ?_⟩
        walk_at "rdh"
        refine r_ite (fun e2 => ?_) (fun e2 => ?_)
        · walk_at "rdh"
          exact fin _ (s8N.trans so)
        · walk_at "rdh"
          refine ⟨⟨_, _, rfl⟩, sn.trans so, fun _ => ?_⟩
          have := of_decide_eq_false e2
          rw [z0] at this
          grind
      · refine r_iteF rfl ?_
        walk_at "rdh"
        exact ⟨⟨_, _, rfl⟩, sn, fun z => by rw [e] at z; cases z⟩
    rintro σ' HO ⟨⟨v7, v8, rfl⟩, so, hz⟩
    walk_at "rdh"
    have s8O := s8M.trans so
    have hfaO := hfa.same so
    obtain ⟨dp, ep⟩ := hp8.same s8O
    refine r_meth1 ep (no_more _) ?_
    walk_at "rdh"
    refine ⟨p, fa, x, _, rfl, hp8.same s8O, hfaO, bx.mono (by decide), (Bd.mul by' b2).mono (by decide), trivial, fun pm HP sp' _ hpm => ?_⟩
    walk_at "rdh"
    have s8P := s8O.trans sp'
    refine rd_rounded hpm (hs8.same s8P) ((Bd.add bx (Bd.mul by' b2)).mono (by decide)) by9 y0' fun rm HQ sq hrm => ?_
    have e2 : ((2 * m : Int) : Rat) = ((2 * m : Int) : Rat) := rfl
    rw [shift_round r y0 (by omega) (by omega) hz, hF] at hrm
    walk_at "rdh"
    have s8Q := s8P.trans sq
    obtain ⟨df, ef⟩ := hf8.same s8Q
    refine r_meth1 ef (no_more _) ?_
    walk_at "rdh"
    refine ⟨fo, fa, _, _, rfl, hf8.same s8Q, (hfaO.same sp').same sq, bf.mono (by decide), (Bd.mul by' b2).mono (by decide), trivial, fun fm HR sr _ hfm => ?_⟩
    walk_at "rdh"
    refine r_eqNum (hrm.same sr) hfm ?_
    rw [decide_eq_true rfl]
    exact fin _ (s8Q.trans sr)
end
end My

namespace My
open PySem L2
section
variable {K : PySem.W.Frag}
/-- a comprehension over a list: what is kept, and what is put for it -/
theorem lcL_of {α : Type} {H : Hp} {a D : Addr} {zs : List α} {el e : α → V} {f : α → Bool} (hl : SqL K H a (zs.map el)) (hn : zs.length ≤ 1000) (hD : H D = none) {g : TG} {tt : TT} {te : TE} {i : Nat} {σ : L2.St} {Q : Hp → Prop} {vz : List Nat}
    (hg : ∀ (z : α) (H1 : Hp) (R : L2.St → Hp → Prop), z ∈ zs → R ((wipe σ vz).set i (some (el z))) H1 → g (el z) (wipe σ vz) H1 R)
    (hw : ∀ v : V, wipe ((wipe σ vz).set i (some v)) vz = wipe σ vz)
    (ht : ∀ (z : α) (H1 : Hp) (R : Bool → Hp → Prop), z ∈ zs → Same H H1 → (∀ H2, Same H1 H2 → R (f z) H2) → tt ((wipe σ vz).set i (some (el z))) H1 R)
    (he : ∀ (z : α) (H1 : Hp) (R : VK), z ∈ zs → f z = true → Same H H1 → (∀ H2, Same H1 H2 → R (e z) H2) → te ((wipe σ vz).set i (some (el z))) H1 R)
    (q : ∀ H' : Hp, Same H H' → H' D = some (.lst ((zs.filter f).map e)) → Q H') :
    ∃ W : Nat → Nat → Hp → Prop, (∃ m, W 0 m (upd H D (.lst []))) ∧ ∀ i m H, W i m H →
      ((Itl K a).stop i H ∧ Q H) ∨ ((Itl K a).go i H ∧ ∃ Nx : Hp → Prop, (∀ H', Nx H' → ∃ m', m' < m ∧ W (i + 1) m' H') ∧ ∀ x H', (Itl K a).yld i H x H' → g x (wipe σ vz) H' fun σ2 H2 => wipe σ2 vz = wipe σ vz ∧ tt σ2 H2 fun b H3 =>
        if b = true then te σ2 H3 fun y H4 => ∃ acc, H4 D = some (.lst acc) ∧ acc.length < sizeLine ∧ Nx (upd H4 D (.lst (acc ++ [y]))) else Nx H3) := by
  refine lc_list (K := K) (a := a) (xs := zs.map el) (fun j H' => Same H H' ∧ H' D = some (.lst (((zs.take j).filter f).map e)) ∧ j ≤ zs.length) ⟨Same.new hD, upd_same, Nat.zero_le _⟩ (fun j H' _ ⟨s, _⟩ => SqL.ext hl s) ?_ ?_
  · rintro j x H1 hx ⟨s1, hD1, hj⟩
    rw [List.getElem?_map] at hx
    obtain ⟨z, hz, rfl⟩ : ∃ z, zs[j]? = some z ∧ el z = x := by
      cases e : zs[j]? with
      | none => rw [e] at hx; cases hx
      | some z => rw [e] at hx; exact ⟨z, rfl, Option.some.inj hx⟩
    have hm : z ∈ zs := List.mem_of_getElem? hz
    have jl : j < zs.length := by
      rcases Nat.lt_or_ge j zs.length with h | h
      · exact h
      · rw [List.getElem?_eq_none h] at hz; cases hz
    have tk : zs.take (j + 1) = zs.take j ++ [z] := by rw [List.take_add_one, hz]; rfl
    refine hg z H1 _ hm ⟨hw _, ?_⟩
    refine ht z H1 _ hm s1 fun H2 s2 => ?_
    cases fz : f z with
    | false =>
      refine (iteF ?_ : if false = true then _ else _)
      refine ⟨s1.trans s2, ?_, by omega⟩
      rw [s2 _ _ hD1, tk, List.filter_append, List.filter_cons, fz]
      simp
    | true =>
      refine (iteT ?_ : if true = true then _ else _)
      refine he z H2 _ hm fz (s1.trans s2) fun H3 s3 => ?_
      have hD3 := s3 _ _ (s2 _ _ hD1)
      refine ⟨_, hD3, ?_, ?_, ?_, by omega⟩
      · rw [List.length_map]
        refine Nat.lt_of_le_of_lt (Nat.le_trans (List.length_filter_le _ _) ?_) (show 1000 < sizeLine by decide)
        rw [List.length_take]
        omega
      · intro b o hb
        rw [upd_ne (ne_of_none hb hD)]
        exact s3 _ _ (s2 _ _ (s1 _ _ hb))
      · rw [upd_same, tk, List.filter_append, List.filter_cons, fz]
        simp
  · rintro H1 ⟨s1, hD1, _⟩
    refine q H1 s1 ?_
    rw [hD1, List.take_of_length_le (by rw [List.length_map]; omega)]
/-- the same over a tuple -/
theorem lcT_of {α : Type} {H : Hp} {a D : Addr} {zs : List α} {el e : α → V} {f : α → Bool} (hl : SqT K H a (zs.map el)) (hn : zs.length ≤ 1000) (hD : H D = none) {g : TG} {tt : TT} {te : TE} {i : Nat} {σ : L2.St} {Q : Hp → Prop} {vz : List Nat}
    (hg : ∀ (z : α) (H1 : Hp) (R : L2.St → Hp → Prop), z ∈ zs → R ((wipe σ vz).set i (some (el z))) H1 → g (el z) (wipe σ vz) H1 R)
    (hw : ∀ v : V, wipe ((wipe σ vz).set i (some v)) vz = wipe σ vz)
    (ht : ∀ (z : α) (H1 : Hp) (R : Bool → Hp → Prop), z ∈ zs → Same H H1 → (∀ H2, Same H1 H2 → R (f z) H2) → tt ((wipe σ vz).set i (some (el z))) H1 R)
    (he : ∀ (z : α) (H1 : Hp) (R : VK), z ∈ zs → f z = true → Same H H1 → (∀ H2, Same H1 H2 → R (e z) H2) → te ((wipe σ vz).set i (some (el z))) H1 R)
    (q : ∀ H' : Hp, Same H H' → H' D = some (.lst ((zs.filter f).map e)) → Q H') :
    ∃ W : Nat → Nat → Hp → Prop, (∃ m, W 0 m (upd H D (.lst []))) ∧ ∀ i m H, W i m H →
      ((Itt K a).stop i H ∧ Q H) ∨ ((Itt K a).go i H ∧ ∃ Nx : Hp → Prop, (∀ H', Nx H' → ∃ m', m' < m ∧ W (i + 1) m' H') ∧ ∀ x H', (Itt K a).yld i H x H' → g x (wipe σ vz) H' fun σ2 H2 => wipe σ2 vz = wipe σ vz ∧ tt σ2 H2 fun b H3 =>
        if b = true then te σ2 H3 fun y H4 => ∃ acc, H4 D = some (.lst acc) ∧ acc.length < sizeLine ∧ Nx (upd H4 D (.lst (acc ++ [y]))) else Nx H3) := by
  refine lc_tup (K := K) (a := a) (xs := zs.map el) (fun j H' => Same H H' ∧ H' D = some (.lst (((zs.take j).filter f).map e)) ∧ j ≤ zs.length) ⟨Same.new hD, upd_same, Nat.zero_le _⟩ (fun j H' _ ⟨s, _⟩ => SqT.ext hl s) ?_ ?_
  · rintro j x H1 hx ⟨s1, hD1, hj⟩
    rw [List.getElem?_map] at hx
    obtain ⟨z, hz, rfl⟩ : ∃ z, zs[j]? = some z ∧ el z = x := by
      cases e : zs[j]? with
      | none => rw [e] at hx; cases hx
      | some z => rw [e] at hx; exact ⟨z, rfl, Option.some.inj hx⟩
    have hm : z ∈ zs := List.mem_of_getElem? hz
    have jl : j < zs.length := by
      rcases Nat.lt_or_ge j zs.length with h | h
      · exact h
      · rw [List.getElem?_eq_none h] at hz; cases hz
    have tk : zs.take (j + 1) = zs.take j ++ [z] := by rw [List.take_add_one, hz]; rfl
    refine hg z H1 _ hm ⟨hw _, ?_⟩
    refine ht z H1 _ hm s1 fun H2 s2 => ?_
    cases fz : f z with
    | false =>
      refine (iteF ?_ : if false = true then _ else _)
      refine ⟨s1.trans s2, ?_, by omega⟩
      rw [s2 _ _ hD1, tk, List.filter_append, List.filter_cons, fz]
      simp
    | true =>
      refine (iteT ?_ : if true = true then _ else _)
      refine he z H2 _ hm fz (s1.trans s2) fun H3 s3 => ?_
      have hD3 := s3 _ _ (s2 _ _ hD1)
      refine ⟨_, hD3, ?_, ?_, ?_, by omega⟩
      · rw [List.length_map]
        refine Nat.lt_of_le_of_lt (Nat.le_trans (List.length_filter_le _ _) ?_) (show 1000 < sizeLine by decide)
        rw [List.length_take]
        omega
      · intro b o hb
        rw [upd_ne (ne_of_none hb hD)]
        exact s3 _ _ (s2 _ _ (s1 _ _ hb))
      · rw [upd_same, tk, List.filter_append, List.filter_cons, fz]
        simp
  · rintro H1 ⟨s1, hD1, _⟩
    refine q H1 s1 ?_
    rw [hD1, List.take_of_length_le (by rw [List.length_map]; omega)]
theorem filter_yes {α : Type} (zs : List α) : zs.filter (fun _ => true) = zs := List.filter_eq_self.mpr fun _ _ => rfl
theorem r_yes {σ : L2.St} {H : Hp} {R : Bool → Hp → Prop} (h : ∀ H2, Same H H2 → R true H2) : tYes σ H R := h H (Same.refl _)
theorem r_eqInts {H : Hp} {Q : VK} {p q : Addr} {xs ys : List Int} (h : SqL K H p (xs.map V.int)) (h' : SqL K H q (ys.map V.int)) (k : Q (.bl (decide (xs = ys))) H) : rEqD K (.ref p) (.ref q) H Q :=
  ⟨.list (xs.map PyData.int), .list (ys.map PyData.int), .lst h (dp_ints xs), .lst h' (dp_ints ys), shaped_ints xs, shaped_ints ys, by
    rw [PyData.eqv, eqv_ints]; exact k⟩
end
end My

namespace My
open PySem L2 LamX NdefX
/-! ### numbers in a row -/
abbrev NZ := Addr × Rat
def NumZ (C : Addr) (H : Hp) (zs : List NZ) : Prop := ∀ z ∈ zs, NumAt C H z.1 z.2
theorem NumZ.same {C : Addr} {H H' : Hp} {zs : List NZ} (h : NumZ C H zs) (s : Same H H') : NumZ C H' zs := fun z hz => (h z hz).same s
/-- how many are less -/
def plN (zs : List NZ) (v : Rat) : Nat := (zs.filter fun o => decide (o.2 < v)).length
theorem pl_mono {zs : List NZ} {a b : Rat} (h : a ≤ b) : plN zs a ≤ plN zs b := by
  unfold plN
  induction zs with
  | nil => exact Nat.le_refl _
  | cons z zs ih =>
    rw [List.filter_cons, List.filter_cons]
    by_cases p : z.2 < a
    · rw [if_pos (decide_eq_true p), if_pos (decide_eq_true (by grind))]
      exact Nat.succ_le_succ ih
    · rw [if_neg (by simp [p])]
      split
      · exact Nat.le_succ_of_le ih
      · exact ih
theorem pl_lt {zs : List NZ} {a b : Rat} (m : ∃ z ∈ zs, z.2 = a) (h : a < b) : plN zs a < plN zs b := by
  induction zs with
  | nil => obtain ⟨z, hz, _⟩ := m; cases hz
  | cons z zs ih =>
    have mono := pl_mono (zs := zs) (Rat.le_of_lt h)
    unfold plN at *
    rw [List.filter_cons, List.filter_cons]
    by_cases e : z.2 = a
    · rw [if_neg (by simp [e]), if_pos (decide_eq_true (by grind))]
      exact Nat.lt_succ_of_le mono
    · have m' : ∃ z ∈ zs, z.2 = a := by
        obtain ⟨y, hy, ey⟩ := m
        rcases List.mem_cons.mp hy with rfl | hy
        · exact absurd ey e
        · exact ⟨y, hy, ey⟩
      have := ih m'
      by_cases p : z.2 < a
      · rw [if_pos (decide_eq_true p), if_pos (decide_eq_true (by grind))]
        exact Nat.succ_lt_succ this
      · rw [if_neg (by simp [p])]
        split
        · exact Nat.lt_succ_of_lt this
        · exact this
theorem pl_lt_of {zs : List NZ} {a b : Rat} (h : plN zs a < plN zs b) : a < b := by
  refine Classical.byContradiction fun z => ?_
  have := pl_mono (zs := zs) (a := b) (b := a) (by grind)
  omega
theorem pl_eq_of {zs : List NZ} {a b : Rat} (ma : ∃ z ∈ zs, z.2 = a) (mb : ∃ z ∈ zs, z.2 = b) (h : plN zs a = plN zs b) : a = b := by
  by_cases p : a < b
  · have := pl_lt ma p; omega
  · by_cases q : b < a
    · have := pl_lt mb q; omega
    · grind
section
variable {P : Program} {w : World} {K : PySem.W.Frag} {mg : Str → Option Value} {base : Heap}
def spOrder (C : Addr) : Sp := fun vs H Q _ => ∃ (l s : Addr) (r : Way) (zs : List NZ) (y : Rat), vs = [.ref l, .ref s, .str (wname r)] ∧ H l = some (.lst (zs.map fun z => V.ref z.1)) ∧ NumZ C H zs ∧ (∀ z ∈ zs, Bd 300 z.2) ∧ zs.length ≤ 10 ∧ NumAt C H s y ∧ Bd 120 y ∧ 0 < y ∧
  ∀ (H' : Hp), Same H H' → Q (.bl true) H'
/-- a row: the place and the number -/
def RowZ (H : Hp) (zs : List NZ) (v : V) : Prop := ∃ (q : Addr) (z : NZ), v = .ref q ∧ z ∈ zs ∧ H q = some (.tup [.int (plN zs z.2 : Nat), .ref z.1])
theorem RowZ.same {H H' : Hp} {zs : List NZ} {v : V} (s : Same H H') (h : RowZ H zs v) : RowZ H' zs v := let ⟨q, z, e, m, hq⟩ := h; ⟨q, z, e, m, s _ _ hq⟩
theorem ok_l_order_right (T : Txt w K mg) : FnOk P w K mg base CX0 7 T.f_l_order_right T.fd_l_order_right ["_law_numbers", "_law_unit_step", "_law_rule"] (spOrder T.C_Number) := by
  refine T.F_l_order_right.ok sc_l_order_right (fun vs H Q E h => ?_) (fun cdv A outer s H vs Q E hr h => ?_)
  · obtain ⟨l, s, r, zs, y, rfl, _⟩ := h
    rfl
  · obtain ⟨l, s', r, zs, y, rfl, hl, hz, bz, l10, hs, by', y0, k⟩ := h
    have y0' : y ≠ 0 := by grind
    have by9 := by'.mono (show 120 ≤ 900 by decide)
    have bf : ∀ z ∈ zs, Bd 541 (y * (takenQ r (z.2 / y) : Rat)) := fun z m => Bd.mul by' (Bd.int (n := 421) (taken_bd (Bd.div (bz z m) by' y0')) (by decide))
    refine ⟨_, (pss_cons (ps_set (i := 3) sc_l_order_right.nd rfl (Or.inl rfl) (pe_lst pa_nil))
 (pss_cons (ps_for PassesOwn.never rfl (pi_list (pv 0)) (pg_name (i := 4) sc_l_order_right.nd rfl (Or.inr rfl))
  (pss_cons (ps_set (i := 6) sc_l_order_right.nd rfl (Or.inl rfl) (pe_callB call_len_seq (by rfl) T.n_len PySem.boot_len (pa_cons (pe_lc (own := [("_law_other", 5)]) (g := gName 5) rfl sc_l_order_right.nd (pi_list (pv 0)) (blkOk_by (own := [("_law_other", 5)]) (N := ["_law_numbers", "_law_unit_step", "_law_rule", "_law_rows", "_law_here", "_law_other", "_law_place", "_law_spot", "_law_one", "_law_two"]) (sc := defScope s_l_order_right) (by decide +kernel)) (fun _ _ _ _ _ => pg_name (i := 5) sc_l_order_right.nd rfl (Or.inl rfl)) (fun _ _ _ _ _ => (pts_one (pt_val (pe_meth (pv 5) T.c_Number T.me_Number_below (ok_Number_below T) (hr.mono (by decide)) T.b_Number_below .nil pass0 (pa_cons (pv 4) pa_nil))))) (fun _ _ _ _ _ => (pv 5))) pa_nil)))
 (pss_one (ps_expr (pe_bm PySem.F.plainAttrs_list PySem.F.slot_list_append PySem.F.type_list_append mt_append (pv 3) (pa_cons (pe_tup (pa_cons (pv 6) (pa_cons (pv 4) pa_nil))) pa_nil))))))
 (pss_cons (ps_for PassesOwn.never rfl (pi_list (pv 3)) (pg_tup rfl (pgs_cons (pg_name (i := 6) sc_l_order_right.nd rfl (Or.inl rfl)) (pgs_cons (pg_name (i := 4) sc_l_order_right.nd rfl (Or.inr rfl)) pgs_nil)))
  (pss_one (ps_for PassesOwn.never rfl (pi_list (pv 3)) (pg_tup rfl (pgs_cons (pg_name (i := 7) sc_l_order_right.nd rfl (Or.inl rfl)) (pgs_cons (pg_name (i := 5) sc_l_order_right.nd rfl (Or.inl rfl)) pgs_nil)))
  (pss_cons (ps_par (i := 8) (j := 9) rfl sc_l_order_right.nd rfl rfl (by decide) rfl rfl (pa_cons (pe_callN (ok_rounded T) (hr.mono (by decide)) (by rfl) T.m_rounded T.F_rounded.kp T.kb_rounded pass0 (pa_cons (pv 4) (pa_cons (pv 1) pa_nil)) (pk_cons (pv 2) pk_nil)) (pa_cons (pe_callN (ok_rounded T) (hr.mono (by decide)) (by rfl) T.m_rounded T.F_rounded.kp T.kb_rounded pass0 (pa_cons (pv 5) (pa_cons (pv 1) pa_nil)) (pk_cons (pv 2) pk_nil)) pa_nil)) (by rfl))
 (pss_one (ps_if (PW.pt (pw_or (PW.pt (pw_and (pt_cmpR op_lt (pv 6) (pv 7) (nomark _)) (pw_and1 (pt_val (pe_meth (pv 9) T.c_Number T.me_Number_below (ok_Number_below T) (hr.mono (by decide)) T.b_Number_below .nil pass0 (pa_cons (pv 8) pa_nil)))))) (pw_or1 (PW.pt (pw_and (pt_cmpR op_eq (pv 6) (pv 7) (nomark _)) (pw_and1 (pt_not (pt_cmpR (op_eqOwn (ok_Number_eq T) T.me_Number_eq.at_ T.me_Number_eq.fn T.b_Number_eq (hr.mono (by decide))) (pv 8) (pv 9) (nomark _)))))))))
  (pss_one (ps_ret pe_bl))
  pss_nil))))))
 (pss_one (ps_ret pe_bl))))), ?_⟩
    walk_at "rdh"
    refine r_new (by show 0 ≤ 1000; decide) fun D hD => ?_
    have s1 := Same.new (o := .lst []) hD
    have e1 := upd_same (H := H) (a := D) (o := HO.lst [])
    generalize upd H D (.lst []) = H1 at *
    walk_at "rdh"
    refine r_forL ?_
    walk_at "rdh"
    refine ⟨l, rfl, ⟨_, SqL.of (s1 _ _ hl)⟩, for_list (K := K) (a := l) (xs := zs.map fun z => V.ref z.1) (fun j σ H' => (∃ v4 v5 v6 v7 v8 v9 : Option V, σ = [some (.ref l), some (.ref s'), some (.str (wname r)), some (.ref D), v4, v5, v6, v7, v8, v9]) ∧ Same H H' ∧ j ≤ zs.length ∧ ∃ vs : List V, H' D = some (.lst vs) ∧ vs.length = j ∧ ∀ v ∈ vs, RowZ H' zs v)
      ⟨⟨_, _, _, _, _, _, rfl⟩, s1, Nat.zero_le _, [], e1, rfl, fun v hv => by cases hv⟩ (fun j σ H' _ h => SqL.of (h.2.1 _ _ hl)) ?_ ?_⟩
    · rintro j v σ H2 hv ⟨⟨v4, v5, v6, v7, v8, v9, rfl⟩, s2, jl, vs, hvs, lv, rows⟩
      obtain ⟨z, ez, rfl⟩ : ∃ z, zs[j]? = some z ∧ V.ref z.1 = v := by
        rw [List.getElem?_map] at hv
        cases e : zs[j]? with
        | none => rw [e] at hv; cases hv
        | some z => rw [e] at hv; exact ⟨z, rfl, Option.some.inj hv⟩
      have zm : z ∈ zs := List.mem_of_getElem? ez
      have jl' : j < zs.length := (List.getElem?_eq_some_iff.mp ez).1
      walk_at "rdh"
      refine r_lcL ?_
      walk_at "rdh"
      refine ⟨l, rfl, ⟨_, SqL.of (s2 _ _ hl)⟩, fun D2 hD2 => ?_⟩
      refine lcL_of (K := K) (zs := zs) (el := fun o => V.ref o.1) (e := fun o => V.ref o.1) (f := fun o => decide (o.2 < z.2)) (SqL.of (s2 _ _ hl)) (by omega) hD2 (i := 5) (fun o H3 R _ h => ?_) (fun v => rfl) (fun o H3 R hm s3 h => ?_) (fun o H3 R _ _ s3 h => ?_) fun H3 s3 hL => ?_
      · walk_at "rdh"
        exact h
      · have ho := (hz o hm).same (s2.trans s3)
        obtain ⟨dn, en⟩ := id ho
        walk_at "rdh"
        refine r_meth1 en (no_below _) ?_
        walk_at "rdh"
        refine ⟨o.1, z.1, _, _, rfl, ho, (hz z zm).same (s2.trans s3), (bz o hm).mono (by decide), (bz z zm).mono (by decide), ?_⟩
        walk_at "rdh"
        exact h H3 (Same.refl _)
      · walk_at "rdh"
        exact h H3 (Same.refl _)
      · walk_at "rdh"
        refine ⟨D2, _, rfl, .inl (SqL.of hL), ?_⟩
        rw [List.length_map]
        walk_at "rdh"
        refine ⟨ty_list (s3 _ _ hvs), ?_⟩
        walk_at "rdh"
        refine r_new (by show 2 ≤ 1000; decide) fun q hq => ?_
        have sq := Same.new (o := .tup [.int ((zs.filter fun o => decide (o.2 < z.2)).length : Nat), .ref z.1]) hq
        have eq' := upd_same (H := H3) (a := q) (o := HO.tup [.int ((zs.filter fun o => decide (o.2 < z.2)).length : Nat), .ref z.1])
        generalize upd H3 q (.tup [.int ((zs.filter fun o => decide (o.2 < z.2)).length : Nat), .ref z.1]) = H4 at *
        walk_at "rdh"
        have hD4 := sq _ _ (s3 _ _ hvs)
        refine r_append hD4 (by omega) ?_
        walk_at "rdh"
        have keep : ∀ b o, b ≠ D → H4 b = some o → upd H4 D (.lst (vs ++ [.ref q])) b = some o := fun b o n e => by rw [upd_ne n]; exact e
        refine ⟨⟨_, _, _, _, _, _, rfl⟩, fun b o e => keep _ _ (ne_of_none e hD) (sq _ _ (s3 _ _ (s2 _ _ e))), jl', vs ++ [.ref q], upd_same, by rw [List.length_append, lv]; rfl, fun v hv => ?_⟩
        rcases List.mem_append.mp hv with hv | hv
        · obtain ⟨q', z', e, m, hq'⟩ := rows v hv
          have h4 := sq _ _ (s3 _ _ hq')
          exact ⟨q', z', e, m, keep _ _ (ne_of h4 hD4 fun z => by cases z) h4⟩
        · rw [List.mem_singleton.mp hv]
          exact ⟨q, z, rfl, zm, keep _ _ (ne_of eq' hD4 fun z => by cases z) eq'⟩
    · rintro σ H2 ⟨⟨v4, v5, v6, v7, v8, v9, rfl⟩, s2, _, vs, hvs, lv, rows⟩
      dsimp only
      refine r_forL ?_
      walk_at "rdh"
      have vl : vs.length ≤ 10 := by rw [lv, List.length_map]; exact l10
      refine ⟨D, rfl, ⟨_, SqL.of hvs⟩, for_list (K := K) (a := D) (xs := vs) (fun j σ H' => (∃ v4 v5 v6 v7 v8 v9 : Option V, σ = [some (.ref l), some (.ref s'), some (.str (wname r)), some (.ref D), v4, v5, v6, v7, v8, v9]) ∧ Same H2 H')
        ⟨⟨_, _, _, _, _, _, rfl⟩, Same.refl _⟩ (fun j σ H' _ h => SqL.of (h.2 _ _ hvs)) ?_ ?_⟩
      · rintro j v σ H3 hv ⟨⟨v4, v5, v6, v7, v8, v9, rfl⟩, s3⟩
        obtain ⟨q, z, rfl, zm, hq⟩ := rows v (List.mem_of_getElem? hv)
        refine r_gTup (s3 _ _ hq) rfl ?_
        walk_at "rdh"
        refine r_forL ?_
        walk_at "rdh"
        refine ⟨D, rfl, ⟨_, SqL.of (s3 _ _ hvs)⟩, for_list (K := K) (a := D) (xs := vs) (fun j σ H' => (∃ v5 v7 v8 v9 : Option V, σ = [some (.ref l), some (.ref s'), some (.str (wname r)), some (.ref D), some (.ref z.1), v5, some (.int (plN zs z.2 : Nat)), v7, v8, v9]) ∧ Same H2 H')
          ⟨⟨_, _, _, _, rfl⟩, s3⟩ (fun j σ H' _ h => SqL.of (h.2 _ _ hvs)) ?_ ?_⟩
        · rintro j2 v' σ H4 hv' ⟨⟨v5, v7, v8, v9, rfl⟩, s4⟩
          obtain ⟨q', o, rfl, om, hq'⟩ := rows v' (List.mem_of_getElem? hv')
          refine r_gTup (s4 _ _ hq') rfl ?_
          walk_at "rdh"
          have s24 := s2.trans s4
          refine rd_rounded ((hz z zm).same s24) (hs.same s24) ((bz z zm).mono (by decide)) by9 y0' fun one H5 s5 h5 => ?_
          walk_at "rdh"
          have s25 := s24.trans s5
          refine rd_rounded ((hz o om).same s25) (hs.same s25) ((bz o om).mono (by decide)) by9 y0' fun two H6 s6 h6 => ?_
          walk_at "rdh"
          have h56 := h5.same s6
          have s46 := s4.trans (s5.trans s6)
          refine r_ite (fun e => ?_) (fun e => ?_)
          · have lt : z.2 < o.2 := pl_lt_of (zs := zs) (by have := of_decide_eq_true e; omega)
            walk_at "rdh"
            obtain ⟨d2, e2⟩ := id h6
            refine r_meth1 e2 (no_below _) ?_
            walk_at "rdh"
            refine ⟨two, one, _, _, rfl, h6, h56, (bf o om).mono (by decide), (bf z zm).mono (by decide), ?_⟩
            have M : ¬ y * (takenQ r (o.2 / y) : Rat) < y * (takenQ r (z.2 / y) : Rat) := fun u => by
              have := mul_mono y0 (taken_mono r (div_mono y0 (Rat.le_of_lt lt)))
              grind
            rw [decide_eq_false M]
            walk_at "rdh"
            refine r_iteF rfl ?_
            walk_at "rdh"
            have ne : ¬ ((plN zs z.2 : Nat) : Int) = (plN zs o.2 : Nat) := fun u => by have := of_decide_eq_true e; omega
            refine r_iteF (decide_eq_false ne) ?_
            refine r_iteF rfl ?_
            walk_at "rdh"
            exact ⟨⟨_, _, _, _, rfl⟩, s46⟩
          · refine r_iteF rfl ?_
            walk_at "rdh"
            refine r_ite (fun e2 => ?_) (fun e2 => ?_)
            · have eq' : z.2 = o.2 := pl_eq_of (zs := zs) ⟨z, zm, rfl⟩ ⟨o, om, rfl⟩ (by have := of_decide_eq_true e2; omega)
              walk_at "rdh"
              refine r_eqNum h56 h6 ?_
              rw [eq', decide_eq_true rfl]
              walk_at "rdh"
              refine r_iteF rfl ?_
              walk_at "rdh"
              exact ⟨⟨_, _, _, _, rfl⟩, s46⟩
            · refine r_iteF rfl ?_
              walk_at "rdh"
              exact ⟨⟨_, _, _, _, rfl⟩, s46⟩
        · rintro σ H4 ⟨⟨v5, v7, v8, v9, rfl⟩, s4⟩
          walk_at "rdh"
          exact ⟨⟨_, _, _, _, _, _, rfl⟩, s4⟩
      · rintro σ H3 ⟨⟨v4, v5, v6, v7, v8, v9, rfl⟩, s3⟩
        walk_at "rdh"
        exact k _ (s2.trans s3)
end
end My

namespace My
open PySem L2
section
variable {P : Program} {w : World} {K : PySem.W.Frag} {mg : Str → Option Value} {base : Heap}
/-! ### the deck -/
/-- a deck at d, its cells at c -/
def DeckAt (H : Hp) (d c : Addr) : Prop := ∃ (s n : Int) (xs : List Int), H d = some (.lst [.ref c, .int s, .int n]) ∧ H c = some (.lst (xs.map V.int)) ∧ xs.length ≤ 63 ∧ d ≠ c
theorem DeckAt.same {H H' : Hp} {d c : Addr} (s : Same H H') (h : DeckAt H d c) : DeckAt H' d c := let ⟨a, n, xs, h1, h2, h3, h4⟩ := h; ⟨a, n, xs, s _ _ h1, s _ _ h2, h3, h4⟩
/-- what is no list stays -/
theorem Off.keep {H H' : Hp} {d c b : Addr} {o : HO} (s : Off d c H H') (hd : DeckAt H d c) (h : H b = some o) (hn : ∀ xs, o ≠ .lst xs) : H' b = some o := by
  obtain ⟨_, _, _, h1, h2, _, _⟩ := hd
  exact s b o (ne_of h h1 (hn _)) (ne_of h h2 (hn _)) h
def spDeck (K : PySem.W.Frag) : Sp := fun vs H Q _ => ∃ (a : Addr) (ns : List Int), vs = [.ref a] ∧ SqL K H a (ns.map V.int) ∧ ns.length ≤ 63 ∧ ∀ (d c : Addr) (H' : Hp), Same H H' → DeckAt H' d c → Q (.ref d) H'
theorem ok_l_deck (T : Txt w K mg) : FnOk P w K mg base CX0 1 T.f_l_deck T.fd_l_deck ["_law_script"] (spDeck K) := by
  refine T.F_l_deck.ok sc_l_deck (fun vs H Q E h => ?_) (fun cdv A outer s H vs Q E hr h => ?_)
  · obtain ⟨a, ns, rfl, _⟩ := h
    rfl
  · obtain ⟨a, ns, rfl, hS, hl, k⟩ := h
    refine ⟨_, (pss_cons (ps_set (i := 1) sc_l_deck.nd rfl (Or.inl rfl) (pe_callTy call_list_of (by rfl) T.n_list (by decide +kernel) (pa_cons (pe_slice sl_list (pv 0) po_none (po_some pe_int)) pa_nil)))
 (pss_cons (ps_set (i := 2) sc_l_deck.nd rfl (Or.inl rfl) pe_int)
 (pss_cons (ps_for PassesOwn.never rfl (pi_list (pv 1)) (pg_name (i := 3) sc_l_deck.nd rfl (Or.inl rfl))
  (pss_one (ps_set (i := 2) sc_l_deck.nd rfl (Or.inl rfl) (pe_op op_mod (pe_op op_add (pe_op op_add (pe_op op_mul (pv 2) pe_int) (pe_op op_mod (pv 3) pe_int)) pe_int) pe_int))))
 (pss_one (ps_ret (pe_lst (pa_cons (pe_revL (pv 1)) (pa_cons (pv 2) (pa_cons pe_int pa_nil))))))))), ?_⟩
    walk_at "rd"
    refine ⟨a, _, rfl, hS, fun p hp => ?_⟩
    obtain ⟨ms, em, lm⟩ := cut_ints ns 63
    rw [em]
    walk_at "rd"
    refine ⟨p, _, rfl, .inl (SqL.of upd_same), fun l hl' => ?_⟩
    have s1 : Same H (upd H p (.lst (ms.map V.int))) := Same.new hp
    have s2 : Same H (upd (upd H p (.lst (ms.map V.int))) l (.lst (ms.map V.int))) := s1.trans (Same.new hl')
    walk_at "rd"
    generalize hH2 : upd (upd H p (.lst (ms.map V.int))) l (.lst (ms.map V.int)) = H2 at *
    have hL : H2 l = some (.lst (ms.map V.int)) := by rw [← hH2]; exact upd_same
    refine ⟨_, rfl, l, rfl, ⟨_, SqL.of hL⟩, for_list (K := K) (a := l) (xs := ms.map V.int) (fun i σ H' => ∃ (z : Int) (v : Option V), σ = [some (.ref a), some (.ref l), some (.int z), v] ∧ H' = H2)
      ⟨23, none, rfl, rfl⟩ (fun i σ H' _ ⟨_, _, _, e⟩ => e ▸ SqL.of hL) ?_ ?_⟩
    · rintro i y σ H' hi ⟨z, v, rfl, rfl⟩
      obtain ⟨u, rfl⟩ : ∃ u, y = V.int u := by
        rw [List.getElem?_map] at hi
        cases e : ms[i]? with
        | none => rw [e] at hi; cases hi
        | some u => rw [e] at hi; exact ⟨u, (Option.some.inj hi).symm⟩
      walk_at "rd"
      exact ⟨_, _, rfl, rfl⟩
    · rintro σ H' ⟨z, v, rfl, rfl⟩
      walk_at "rd"
      refine ⟨l, _, rfl, SqL.of hL, fun c hc => ?_⟩
      walk_at "rd"
      refine r_new (by show 3 ≤ 1000; decide) fun d hd => ?_
      have hc2 : c ≠ d := ne_of_none upd_same hd
      refine k d c _ ((s2.trans (Same.new hc)).trans (Same.new hd)) ⟨z, 0, ms.reverse, upd_same, ?_, by rw [List.length_reverse]; omega, hc2.symm⟩
      rw [upd_ne hc2, upd_same, List.map_reverse]
/-! ### a draw -/
def spDraw : Sp := fun vs H Q _ => ∃ (d c : Addr) (w : Int), vs = [.ref d, .int w] ∧ DeckAt H d c ∧ 0 < w ∧ w.natAbs < 2 ^ 9000 ∧ ∀ (r : Int) (H' : Hp), Off d c H H' → DeckAt H' d c → 0 ≤ r → r < w → Q (.int r) H'
theorem lin31 {x : Int} : (0 : Int) ≤ x % 2147483647 ∧ x % 2147483647 < 2147483647 := ⟨Int.emod_nonneg _ (by decide), Int.emod_lt_of_pos _ (by decide)⟩
theorem ok_l_draw (T : Txt w K mg) : FnOk P w K mg base CX0 1 T.f_l_draw T.fd_l_draw ["_law_deck_here", "_law_ways"] spDraw := by
  refine T.F_l_draw.ok sc_l_draw (fun vs H Q E h => ?_) (fun cdv A outer s H vs Q E hr h => ?_)
  · obtain ⟨d, c, v, rfl, _⟩ := h
    rfl
  · obtain ⟨d, c, v, rfl, ⟨z, n, xs, hd, hc, hl, ne⟩, v0, vb, k⟩ := h
    refine ⟨_, (pss_cons (ps_asg (pe_op op_add (pe_ix ix_list (pv 0) pe_int (fun _ _ => rfl)) pe_int) (pg_sub (pv 0) pe_int set_list))
 (pss_cons (ps_set (i := 2) sc_l_draw.nd rfl (Or.inl rfl) (pe_ix ix_list (pv 0) pe_int (fun _ _ => rfl)))
 (pss_cons (ps_if (pt_cmpR (op_neD hr.units) (pe_ix ix_list (pv 0) pe_int (fun _ _ => rfl)) (pe_lst pa_nil) (nomark _))
  (pss_cons (ps_set (i := 2) sc_l_draw.nd rfl (Or.inl rfl) (pe_bm0 PySem.F.plainAttrs_list PySem.F.slot_list_pop PySem.F.type_list_pop mt_pop (pe_ix ix_list (pv 0) pe_int (fun _ _ => rfl))))
 (pss_one (ps_if (pt_cmpR op_ge (pv 2) (pe_op op_pow pe_int pe_int) (nomark _))
  (pss_cons (ps_expr (pe_bm PySem.F.plainAttrs_list PySem.F.slot_list_append PySem.F.type_list_append mt_append (pe_ix ix_list (pv 0) pe_int (fun _ _ => rfl)) (pa_cons (pe_op op_fdivW (pv 2) (pv 1)) pa_nil)))
 (pss_one (ps_ret (pe_op op_mod (pv 2) (pv 1)))))
  pss_nil)))
  pss_nil)
 (pss_cons (ps_set (i := 3) sc_l_draw.nd rfl (Or.inl rfl) (pe_op op_mod (pe_op op_mul (pe_op op_add (pe_op op_add (pe_op op_mod (pv 2) pe_int) (pe_op op_mul pe_int (pe_ix ix_list (pv 0) pe_int (fun _ _ => rfl)))) pe_int) pe_int) pe_int))
 (pss_cons (ps_set (i := 3) sc_l_draw.nd rfl (Or.inl rfl) (pe_op op_mod (pe_op op_add (pe_op op_add (pe_op op_mulW (pv 3) (pv 3)) (pe_op op_mul pe_int (pe_ix ix_list (pv 0) pe_int (fun _ _ => rfl)))) pe_int) pe_int))
 (pss_one (ps_ret (pe_op op_mod (pe_op op_fdiv (pe_op op_mod (pe_op op_mulW (pv 3) (pe_op op_add (pe_op op_fdiv (pv 3) pe_int) pe_int)) pe_int) pe_int) (pv 1))))))))), ?_⟩
    walk_at "rd"
    refine r_ixL hd (atI_nat (j := 2) rfl) ?_
    walk_at "rd"
    refine r_setL hd (j := 2) rfl ?_
    have o1 : Off d c H (upd H d (.lst [.ref c, .int z, .int (n + 1)])) := fun b o h1 h2 h => by rw [upd_ne h1]; exact h
    have hd1 : (upd H d (.lst [.ref c, .int z, .int (n + 1)])) d = some (.lst [.ref c, .int z, .int (n + 1)]) := upd_same
    have hc1 : (upd H d (.lst [.ref c, .int z, .int (n + 1)])) c = some (.lst (xs.map V.int)) := by rw [upd_ne ne.symm]; exact hc
    show (_ : TS) _ _ (upd H d (.lst [.ref c, .int z, .int (n + 1)]))
    generalize (upd H d (.lst [.ref c, .int z, .int (n + 1)])) = H1 at *
    have post : ∀ (cell : Int) (H2 : Hp), Off d c H H2 → (∃ ys : List Int, H2 c = some (.lst (ys.map V.int)) ∧ ys.length ≤ 63) → H2 d = some (.lst [.ref c, .int z, .int (n + 1)]) → ∀ r : Int, 0 ≤ r → r < v → Q (.int r) H2 := by
      intro cell H2 o2 ⟨ys, hy, ly⟩ h2 r r0 r1
      exact k r H2 o2 ⟨z, n + 1, ys, h2, hy, ly, ne⟩ r0 r1
    have pmod : ∀ x : Int, 0 ≤ x % v ∧ x % v < v := fun x => ⟨Int.emod_nonneg _ (by omega), Int.emod_lt_of_pos _ v0⟩
    walk_at "rd"
    refine r_ixL hd1 (atI_nat (j := 1) rfl) ?_
    walk_at "rd"
    refine r_ixL hd1 (atI_nat (j := 0) rfl) ?_
    walk_at "rd"
    refine r_new (by show 0 ≤ 1000; decide) fun e he => ?_
    have hc2 : upd H1 e (.lst []) c = some (.lst (xs.map V.int)) := by rw [upd_ne (ne_of_none hc1 he)]; exact hc1
    have hd2 : upd H1 e (.lst []) d = some (.lst [.ref c, .int z, .int (n + 1)]) := by rw [upd_ne (ne_of_none hd1 he)]; exact hd1
    have o2 : Off d c H (upd H1 e (.lst [])) := o1.trans (Off.of (Same.new he))
    refine r_neInts (xs := xs) (ys := []) (SqL.of hc2) (SqL.of upd_same) ?_
    generalize upd H1 e (.lst []) = H2 at *
    walk_at "rd"
    refine r_ite (fun hx => ?_) (fun hx => ?_)
    · obtain ⟨ys, y, rfl⟩ : ∃ ys y, xs = ys ++ [y] := by
        have hx' : xs ≠ [] := by simpa using hx
        exact ⟨xs.dropLast, xs.getLast hx', (List.dropLast_concat_getLast hx').symm⟩
      rw [List.map_append] at hc2
      rw [List.length_append, List.length_singleton] at hl
      walk_at "rd"
      refine r_ixL hd2 (atI_nat (j := 0) rfl) ?_
      refine ⟨ty_list hc2, r_pop hc2 ?_⟩
      have hc3 : upd H2 c (.lst (ys.map V.int)) c = some (.lst (ys.map V.int)) := upd_same
      have hd3 : upd H2 c (.lst (ys.map V.int)) d = some (.lst [.ref c, .int z, .int (n + 1)]) := by rw [upd_ne ne]; exact hd2
      have o3 : Off d c H (upd H2 c (.lst (ys.map V.int))) := o2.trans fun b o h1 h2 h => by rw [upd_ne h2]; exact h
      generalize upd H2 c (.lst (ys.map V.int)) = H3 at *
      walk_at "rd"
      refine r_ite (fun hy => ?_) (fun hy => ?_)
      · walk_at "rd"
        refine r_ixL hd3 (atI_nat (j := 0) rfl) ?_
        refine ⟨ty_list hc3, ?_⟩
        walk_at "rd"
        refine r_I (wide_div v0 vb (by decide) (Nat.le_refl _)) ?_
        walk_at "rd"
        refine r_append hc3 (by rw [List.length_map]; omega) ?_
        walk_at "rd"
        refine r_I v0 ?_
        refine post y _ (o3.trans fun b o h1 h2 h => by rw [upd_ne h2]; exact h) ⟨ys ++ [y / v], ?_, by rw [List.length_append, List.length_singleton]; omega⟩ (by rw [upd_ne ne]; exact hd3) _ (pmod y).1 (pmod y).2
        rw [upd_same, List.map_append]; rfl
      · walk_at "rd"
        refine r_ixL hd3 (atI_nat (j := 2) rfl) ?_
        walk_at "rd"
        refine r_I (wide_mul (a := 31) (b := 31) (by have := @lin31 ((y % 2147483629 + 104729 * (n + 1) + 41) * 48271); omega) (by have := @lin31 ((y % 2147483629 + 104729 * (n + 1) + 41) * 48271); omega) (by decide) (by decide) (by decide)) ?_
        walk_at "rd"
        refine r_ixL hd3 (atI_nat (j := 2) rfl) ?_
        walk_at "rd"
        generalize (y % 2147483629 + 104729 * (n + 1) + 41) * 48271 % 2147483647 * ((y % 2147483629 + 104729 * (n + 1) + 41) * 48271 % 2147483647) + 69621 * (n + 1) + 3 = m
        have hm : (0 : Int) ≤ m % 2147483587 ∧ m % 2147483587 < 2147483587 := ⟨Int.emod_nonneg _ (by decide), Int.emod_lt_of_pos _ (by decide)⟩
        refine r_I (wide_mul (a := 31) (b := 31) (by omega) (by omega) (by decide) (by decide) (by decide)) ?_
        walk_at "rd"
        refine r_I v0 ?_
        exact post y _ o3 ⟨ys, hc3, by omega⟩ hd3 _ (pmod _).1 (pmod _).2
    · walk_at "rd"
      refine r_ixL hd2 (atI_nat (j := 2) rfl) ?_
      walk_at "rd"
      refine r_I (wide_mul (a := 31) (b := 31) (by have := @lin31 ((z % 2147483629 + 104729 * (n + 1) + 41) * 48271); omega) (by have := @lin31 ((z % 2147483629 + 104729 * (n + 1) + 41) * 48271); omega) (by decide) (by decide) (by decide)) ?_
      walk_at "rd"
      refine r_ixL hd2 (atI_nat (j := 2) rfl) ?_
      walk_at "rd"
      generalize (z % 2147483629 + 104729 * (n + 1) + 41) * 48271 % 2147483647 * ((z % 2147483629 + 104729 * (n + 1) + 41) * 48271 % 2147483647) + 69621 * (n + 1) + 3 = m
      have hm : (0 : Int) ≤ m % 2147483587 ∧ m % 2147483587 < 2147483587 := ⟨Int.emod_nonneg _ (by decide), Int.emod_lt_of_pos _ (by decide)⟩
      refine r_I (wide_mul (a := 31) (b := 31) (by omega) (by omega) (by decide) (by decide) (by decide)) ?_
      walk_at "rd"
      refine r_I v0 ?_
      exact post 0 _ o2 ⟨xs, hc2, hl⟩ hd2 _ (pmod _).1 (pmod _).2
end
end My

namespace My
open PySem L2
theorem atI_mem {α : Type} {xs : List α} {r : Int} (h0 : 0 ≤ r) (h1 : r < (xs.length : Int)) : ∃ v, atI xs r = some v ∧ v ∈ xs := by
  obtain ⟨n, rfl⟩ := Int.eq_ofNat_of_zero_le h0
  have hn : n < xs.length := by omega
  exact ⟨xs[n], atI_nat (List.getElem?_eq_getElem hn), List.getElem_mem hn⟩
theorem fresh_ne {H : Hp} {d c p : Addr} (h : DeckAt H d c) (hp : H p = none) : p ≠ d ∧ p ≠ c := by
  obtain ⟨_, _, _, h1, h2, _, _⟩ := h
  exact ⟨(ne_of_none h1 hp).symm, (ne_of_none h2 hp).symm⟩
theorem lt9000 {v : Int} (h : v.natAbs < 2 ^ 200) : v.natAbs < 2 ^ 9000 := Nat.lt_of_lt_of_le h (Nat.pow_le_pow_right (by decide) (by decide))
/-- a draw, as it is read -/
theorem rd_draw {H : Hp} {d c : Addr} {v : Int} {Q : VK} {E : XK} (dk : DeckAt H d c) (h0 : 0 < v) (h1 : v.natAbs < 2 ^ 200) (q : ∀ (r : Int) (H' : Hp), Off d c H H' → DeckAt H' d c → 0 ≤ r → r < v → Q (.int r) H') : spDraw ([V.ref d, V.int v] ++ []) H Q E :=
  ⟨d, c, v, rfl, dk, h0, lt9000 h1, q⟩
end My

namespace My
open PySem L2
section
variable {P : Program} {w : World} {K : PySem.W.Frag} {mg : Str → Option Value} {base : Heap}
/-! ### a grain -/
def GrainOk (H : Hp) (v : V) : Prop := ∃ (p : Addr) (a b : Int), v = .ref p ∧ H p = some (.tup [.int a, .int b]) ∧ (0 < a ∧ a < 2 ^ 60) ∧ (0 < b ∧ b < 2 ^ 60)
/-- the deck stands, what stood stays but for it, the grains made are grains -/
structure GSt (H0 : Hp) (d c : Addr) (H : Hp) (vs : List V) : Prop where
  off : Off d c H0 H
  dk : DeckAt H d c
  all : ∀ v ∈ vs, GrainOk H v
theorem GSt.tup {H0 H : Hp} {d c p : Addr} {vs : List V} {a b : Int} (s : GSt H0 d c H vs) (hp : H p = none) (ha : 0 < a ∧ a < 2 ^ 60) (hb : 0 < b ∧ b < 2 ^ 60) : GSt H0 d c (upd H p (.tup [.int a, .int b])) (.ref p :: vs) := by
  refine ⟨s.off.trans (Off.of (Same.new hp)), s.dk.same (Same.new hp), fun v hv => ?_⟩
  rcases List.mem_cons.mp hv with rfl | hv
  · exact ⟨p, a, b, rfl, upd_same, ha, hb⟩
  · obtain ⟨q, x, y, e, h, h1, h2⟩ := s.all v hv
    exact ⟨q, x, y, e, Same.new hp _ _ h, h1, h2⟩
theorem GSt.lst {H0 H : Hp} {d c p : Addr} {vs xs : List V} (s : GSt H0 d c H vs) (hp : H p = none) : GSt H0 d c (upd H p (.lst xs)) vs := by
  refine ⟨s.off.trans (Off.of (Same.new hp)), s.dk.same (Same.new hp), fun v hv => ?_⟩
  obtain ⟨q, x, y, e, h, h1, h2⟩ := s.all v hv
  exact ⟨q, x, y, e, Same.new hp _ _ h, h1, h2⟩
theorem GSt.draw {H0 H H' : Hp} {d c : Addr} {vs : List V} (s : GSt H0 d c H vs) (o : Off d c H H') (dk : DeckAt H' d c) : GSt H0 d c H' vs := by
  refine ⟨s.off.trans o, dk, fun v hv => ?_⟩
  obtain ⟨q, x, y, e, h, h1, h2⟩ := s.all v hv
  exact ⟨q, x, y, e, o.keep s.dk h (fun _ z => by cases z), h1, h2⟩
def spGrain : Sp := fun vs H Q _ => ∃ (d c : Addr), vs = [.ref d] ∧ DeckAt H d c ∧
  ∀ (p : Addr) (a b : Int) (H' : Hp), Off d c H H' → DeckAt H' d c → H' p = some (.tup [.int a, .int b]) → (0 < a ∧ a < 2 ^ 60) → (0 < b ∧ b < 2 ^ 60) → Q (.ref p) H'
theorem ok_l_grain (T : Txt w K mg) : FnOk P w K mg base CX0 2 T.f_l_grain T.fd_l_grain ["_law_deck_here"] spGrain := by
  refine T.F_l_grain.ok sc_l_grain (fun vs H Q E h => ?_) (fun cdv A outer s H vs Q E hr h => ?_)
  · obtain ⟨d, c, rfl, _⟩ := h
    rfl
  · obtain ⟨d, c, rfl, dk, k⟩ := h
    refine ⟨_, (pss_cons (ps_set (i := 1) sc_l_grain.nd rfl (Or.inl rfl) (pe_ix ix_list (pe_lst (pa_cons pe_int (pa_cons pe_int (pa_cons (pe_op op_pow pe_int pe_int) (pa_cons (pe_op op_pow pe_int pe_int) (pa_cons (pe_op op_pow pe_int pe_int) (pa_cons (pe_op op_pow pe_int pe_int) (pa_cons (pe_op op_pow pe_int pe_int) pa_nil)))))))) (pe_call (ok_l_draw T) (hr.mono (by decide)) (by rfl) T.m_l_draw T.F_l_draw.kp T.b_l_draw .nil pass0 (pa_cons (pv 0) (pa_cons pe_int pa_nil))) (fun _ _ => rfl)))
 (pss_cons (ps_set (i := 2) sc_l_grain.nd rfl (Or.inl rfl) (pe_lst (pa_cons (pe_tup (pa_cons pe_int (pa_cons pe_int pa_nil))) (pa_cons (pe_tup (pa_cons pe_int (pa_cons (pv 1) pa_nil))) (pa_cons (pe_tup (pa_cons (pv 1) (pa_cons pe_int pa_nil))) (pa_cons (pe_tup (pa_cons pe_int (pa_cons pe_int pa_nil))) (pa_cons (pe_tup (pa_cons pe_int (pa_cons pe_int pa_nil))) (pa_cons (pe_tup (pa_cons pe_int (pa_cons pe_int pa_nil))) (pa_cons (pe_tup (pa_cons (pe_op op_add pe_int (pe_call (ok_l_draw T) (hr.mono (by decide)) (by rfl) T.m_l_draw T.F_l_draw.kp T.b_l_draw .nil pass0 (pa_cons (pv 0) (pa_cons pe_int pa_nil)))) (pa_cons (pe_op op_add pe_int (pe_call (ok_l_draw T) (hr.mono (by decide)) (by rfl) T.m_l_draw T.F_l_draw.kp T.b_l_draw .nil pass0 (pa_cons (pv 0) (pa_cons pe_int pa_nil)))) pa_nil))) pa_nil)))))))))
 (pss_cons (ps_set (i := 2) sc_l_grain.nd rfl (Or.inl rfl) (pe_op op_cat (pv 2) (pe_lst (pa_cons (pe_tup (pa_cons pe_int (pa_cons pe_int pa_nil))) (pa_cons (pe_tup (pa_cons (pe_op op_mul (pv 1) pe_int) (pa_cons pe_int pa_nil))) (pa_cons (pe_tup (pa_cons (pe_op op_add pe_int (pe_call (ok_l_draw T) (hr.mono (by decide)) (by rfl) T.m_l_draw T.F_l_draw.kp T.b_l_draw .nil pass0 (pa_cons (pv 0) (pa_cons (pe_op op_pow pe_int pe_int) pa_nil)))) (pa_cons (pe_op op_add pe_int (pe_call (ok_l_draw T) (hr.mono (by decide)) (by rfl) T.m_l_draw T.F_l_draw.kp T.b_l_draw .nil pass0 (pa_cons (pv 0) (pa_cons (pe_op op_pow pe_int pe_int) pa_nil)))) pa_nil))) pa_nil))))))
 (pss_one (ps_ret (pe_ix ix_list (pv 2) (pe_call (ok_l_draw T) (hr.mono (by decide)) (by rfl) T.m_l_draw T.F_l_draw.kp T.b_l_draw .nil pass0 (pa_cons (pv 0) (pa_cons pe_int pa_nil))) (fun _ _ => rfl))))))), ?_⟩
    walk_at "rd"
    refine r_new (by show 7 ≤ 1000; decide) fun l hl => ?_
    obtain ⟨l1, l2⟩ := fresh_ne dk hl
    have S0 : GSt H d c H [] := ⟨Off.refl _ _ _, dk, fun v hv => by cases hv⟩
    have S1 := S0.lst (xs := [.int 1, .int 10, .int (10 ^ (2 : Int).toNat), .int (10 ^ (3 : Int).toNat), .int (10 ^ (4 : Int).toNat), .int (10 ^ (6 : Int).toNat), .int (10 ^ (8 : Int).toNat)]) hl
    walk_at "rd"
    refine rd_draw S1.dk (by decide) (by decide) fun r H2 o2 dk2 r0 r1 => ?_
    have S2 := S1.draw o2 dk2
    have hL := o2 l _ l1 l2 upd_same
    obtain ⟨t, at_, tm⟩ := atI_mem (xs := [V.int 1, .int 10, .int (10 ^ (2 : Int).toNat), .int (10 ^ (3 : Int).toNat), .int (10 ^ (4 : Int).toNat), .int (10 ^ (6 : Int).toNat), .int (10 ^ (8 : Int).toNat)]) r0 r1
    refine r_ixL hL at_ ?_
    obtain ⟨t, rfl, t0⟩ : ∃ i : Int, t = .int i ∧ (0 < i ∧ i < 2 ^ 40) := by
      simp only [List.mem_cons, List.not_mem_nil, or_false] at tm
      rcases tm with rfl | rfl | rfl | rfl | rfl | rfl | rfl <;> exact ⟨_, rfl, by decide, by decide⟩
    have tb : 0 < t ∧ t < 2 ^ 60 := ⟨t0.1, by omega⟩
    walk_at "rd"
    refine r_new (by show 2 ≤ 1000; decide) fun p1 q1 => ?_
    have S3 := S2.tup (a := 1) (b := 1) q1 (by decide) (by decide)
    walk_at "rd"
    refine r_new (by show 2 ≤ 1000; decide) fun p2 q2 => ?_
    have S4 := S3.tup (a := 1) (b := t) q2 (by decide) tb
    walk_at "rd"
    refine r_new (by show 2 ≤ 1000; decide) fun p3 q3 => ?_
    have S5 := S4.tup (a := t) (b := 1) q3 tb (by decide)
    walk_at "rd"
    refine r_new (by show 2 ≤ 1000; decide) fun p4 q4 => ?_
    have S6 := S5.tup (a := 1) (b := 8) q4 (by decide) (by decide)
    walk_at "rd"
    refine r_new (by show 2 ≤ 1000; decide) fun p5 q5 => ?_
    have S7 := S6.tup (a := 1) (b := 3) q5 (by decide) (by decide)
    walk_at "rd"
    refine r_new (by show 2 ≤ 1000; decide) fun p6 q6 => ?_
    have S8 := S7.tup (a := 7) (b := 1) q6 (by decide) (by decide)
    walk_at "rd"
    refine rd_draw S8.dk (by decide) (by decide) fun u H3 o3 dk3 u0 u1 => ?_
    have S9 := S8.draw o3 dk3
    walk_at "rd"
    refine rd_draw S9.dk (by decide) (by decide) fun v H4 o4 dk4 v0 v1 => ?_
    have S10 := S9.draw o4 dk4
    walk_at "rd"
    refine r_new (by show 2 ≤ 1000; decide) fun p7 q7 => ?_
    have S11 := S10.tup (a := 1 + u) (b := 1 + v) q7 (by omega) (by omega)
    walk_at "rd"
    refine r_new (by show 7 ≤ 1000; decide) fun m hm => ?_
    obtain ⟨m1, m2⟩ := fresh_ne S11.dk hm
    have S12 := S11.lst (xs := [.ref p1, .ref p2, .ref p3, .ref p4, .ref p5, .ref p6, .ref p7]) hm
    have M12 : upd (upd H4 p7 (.tup [.int (1 + u), .int (1 + v)])) m (.lst [.ref p1, .ref p2, .ref p3, .ref p4, .ref p5, .ref p6, .ref p7]) m = some (.lst [.ref p1, .ref p2, .ref p3, .ref p4, .ref p5, .ref p6, .ref p7]) := upd_same
    walk_at "rd"
    refine r_new (by show 2 ≤ 1000; decide) fun p8 q8 => ?_
    have S13 := S12.tup (a := 1) (b := 20) q8 (by decide) (by decide)
    have M13 := Same.new (o := .tup [.int 1, .int 20]) q8 _ _ M12
    walk_at "rd"
    refine r_new (by show 2 ≤ 1000; decide) fun p9 q9 => ?_
    have S14 := S13.tup (a := t * 1000) (b := 1) q9 (by omega) (by decide)
    have M14 := Same.new (o := .tup [.int (t * 1000), .int 1]) q9 _ _ M13
    walk_at "rd"
    refine rd_draw S14.dk (by decide) (by decide) fun u' H5 o5 dk5 u0' u1' => ?_
    have S15 := S14.draw o5 dk5
    have M15 := o5 _ _ m1 m2 M14
    walk_at "rd"
    refine rd_draw S15.dk (by decide) (by decide) fun v' H6 o6 dk6 v0' v1' => ?_
    have S16 := S15.draw o6 dk6
    have M16 := o6 _ _ m1 m2 M15
    walk_at "rd"
    refine r_new (by show 2 ≤ 1000; decide) fun p10 q10 => ?_
    have S17 := S16.tup (a := 1 + u') (b := 1 + v') q10 (by have e : (10 : Int) ^ (6 : Int).toNat = 1000000 := rfl; omega) (by have e : (10 : Int) ^ (6 : Int).toNat = 1000000 := rfl; omega)
    have M17 := Same.new (o := .tup [.int (1 + u'), .int (1 + v')]) q10 _ _ M16
    walk_at "rd"
    refine r_new (by show 3 ≤ 1000; decide) fun n hn => ?_
    have S18 := S17.lst (xs := [.ref p8, .ref p9, .ref p10]) hn
    have M18 := Same.new (o := .lst [.ref p8, .ref p9, .ref p10]) hn _ _ M17
    refine ⟨m, n, _, _, rfl, rfl, M18, upd_same, by show 7 + 3 ≤ sizeLine; decide, fun f hf => ?_⟩
    obtain ⟨f1, f2⟩ := fresh_ne S18.dk hf
    have S19 := S18.lst (xs := [.ref p1, .ref p2, .ref p3, .ref p4, .ref p5, .ref p6, .ref p7] ++ [.ref p8, .ref p9, .ref p10]) hf
    walk_at "rd"
    refine rd_draw S19.dk (by decide) (by decide) fun r' H7 o7 dk7 r0' r1' => ?_
    have S20 := S19.draw o7 dk7
    have hF := o7 f _ f1 f2 upd_same
    obtain ⟨g, ag, gm⟩ := atI_mem (xs := [V.ref p1, .ref p2, .ref p3, .ref p4, .ref p5, .ref p6, .ref p7] ++ [V.ref p8, .ref p9, .ref p10]) r0' (by show r' < 10; exact r1')
    refine r_ixL hF ag ?_
    have hg : g ∈ [V.ref p10, .ref p9, .ref p8, .ref p7, .ref p6, .ref p5, .ref p4, .ref p3, .ref p2, .ref p1] := by
      simp only [List.mem_cons, List.cons_append, List.nil_append, List.not_mem_nil, or_false] at gm ⊢
      rcases gm with h | h | h | h | h | h | h | h | h | h <;> simp [h]
    obtain ⟨p, a, b, rfl, hp, ha, hb⟩ := S20.all g hg
    exact k p a b H7 S20.off S20.dk hp ha hb
end
end My

namespace My
open PySem L2
section
variable {P : Program} {w : World} {K : PySem.W.Frag} {mg : Str → Option Value} {base : Heap}
theorem int_of {v : V} {xs : List Int} (h : v ∈ xs.map V.int) : ∃ i, v = .int i ∧ i ∈ xs := by
  obtain ⟨i, hi, rfl⟩ := List.mem_map.mp h
  exact ⟨i, rfl, hi⟩
def spNear : Sp := fun vs H Q _ => ∃ (d c g : Addr) (a b : Int), vs = [.ref d, .ref g] ∧ DeckAt H d c ∧ H g = some (.tup [.int a, .int b]) ∧ (0 < a ∧ a < 2 ^ 60) ∧ (0 < b ∧ b < 2 ^ 60) ∧
  ∀ (p : Addr) (t u : Int) (H' : Hp), Off d c H H' → DeckAt H' d c → H' p = some (.tup [.int t, .int u]) → t.natAbs < 2 ^ 100 → (0 < u ∧ u < 2 ^ 71) → Q (.ref p) H'
theorem ok_l_near (T : Txt w K mg) : FnOk P w K mg base CX0 2 T.f_l_near T.fd_l_near ["_law_deck_here", "_law_grain_here"] spNear := by
  refine T.F_l_near.ok sc_l_near (fun vs H Q E h => ?_) (fun cdv A outer s H vs Q E hr h => ?_)
  · obtain ⟨d, c, g, a, b, rfl, _⟩ := h
    rfl
  · obtain ⟨d, c, g, a, b, rfl, dk, hg, ha, hb, k⟩ := h
    refine ⟨_, (pss_cons (ps_set (i := 2) sc_l_near.nd rfl (Or.inl rfl) (pe_lst (pa_cons (pe_call (ok_l_draw T) (hr.mono (by decide)) (by rfl) T.m_l_draw T.F_l_draw.kp T.b_l_draw .nil pass0 (pa_cons (pv 0) (pa_cons pe_int pa_nil))) (pa_cons (pe_op op_add pe_int (pe_call (ok_l_draw T) (hr.mono (by decide)) (by rfl) T.m_l_draw T.F_l_draw.kp T.b_l_draw .nil pass0 (pa_cons (pv 0) (pa_cons pe_int pa_nil)))) (pa_cons (pe_op op_add pe_int (pe_call (ok_l_draw T) (hr.mono (by decide)) (by rfl) T.m_l_draw T.F_l_draw.kp T.b_l_draw .nil pass0 (pa_cons (pv 0) (pa_cons pe_int pa_nil)))) (pa_cons pe_int (pa_cons (pe_call (ok_l_draw T) (hr.mono (by decide)) (by rfl) T.m_l_draw T.F_l_draw.kp T.b_l_draw .nil pass0 (pa_cons (pv 0) (pa_cons (pe_op op_pow pe_int pe_int) pa_nil))) pa_nil)))))))
 (pss_cons (ps_set (i := 3) sc_l_near.nd rfl (Or.inl rfl) (pe_op op_mulW (pe_ix ix_list (pv 2) (pe_call (ok_l_draw T) (hr.mono (by decide)) (by rfl) T.m_l_draw T.F_l_draw.kp T.b_l_draw .nil pass0 (pa_cons (pv 0) (pa_cons pe_int pa_nil))) (fun _ _ => rfl)) (pe_ix ix_list (pe_lst (pa_cons pe_int (pa_cons (pe_un un_neg pe_int) pa_nil))) (pe_call (ok_l_draw T) (hr.mono (by decide)) (by rfl) T.m_l_draw T.F_l_draw.kp T.b_l_draw .nil pass0 (pa_cons (pv 0) (pa_cons pe_int pa_nil))) (fun _ _ => rfl))))
 (pss_cons (ps_set (i := 4) sc_l_near.nd rfl (Or.inl rfl) (pe_ix ix_list (pe_lst (pa_cons pe_int (pa_cons pe_int (pa_cons pe_int (pa_cons pe_int (pa_cons pe_int (pa_cons pe_int pa_nil))))))) (pe_call (ok_l_draw T) (hr.mono (by decide)) (by rfl) T.m_l_draw T.F_l_draw.kp T.b_l_draw .nil pass0 (pa_cons (pv 0) (pa_cons pe_int pa_nil))) (fun _ _ => rfl)))
 (pss_cons (ps_set (i := 5) sc_l_near.nd rfl (Or.inl rfl) (pe_op op_fdiv (pv 4) pe_int))
 (pss_cons (ps_set (i := 6) sc_l_near.nd rfl (Or.inl rfl) (pe_ix ix_list (pe_lst (pa_cons pe_int (pa_cons (pv 5) (pa_cons (pe_callB (call_max2 rfl) (by rfl) T.n_max (by decide +kernel) (pa_cons pe_int (pa_cons (pe_op op_sub (pv 5) pe_int) pa_nil))) (pa_cons (pe_op op_add (pv 5) pe_int) (pa_cons pe_int (pa_cons (pe_op op_sub (pv 4) pe_int) (pa_cons (pe_call (ok_l_draw T) (hr.mono (by decide)) (by rfl) T.m_l_draw T.F_l_draw.kp T.b_l_draw .nil pass0 (pa_cons (pv 0) (pa_cons (pv 4) pa_nil))) pa_nil)))))))) (pe_call (ok_l_draw T) (hr.mono (by decide)) (by rfl) T.m_l_draw T.F_l_draw.kp T.b_l_draw .nil pass0 (pa_cons (pv 0) (pa_cons pe_int pa_nil))) (fun _ _ => rfl)))
 (pss_one (ps_ret (pe_tup (pa_cons (pe_op op_mulW (pe_ix ix_tup (pv 1) pe_int (fun _ _ => rfl)) (pe_op op_add (pe_op op_mulW (pv 3) (pv 4)) (pe_op op_mod (pv 6) (pv 4)))) (pa_cons (pe_op op_mulW (pe_ix ix_tup (pv 1) pe_int (fun _ _ => rfl)) (pv 4)) pa_nil)))))))))), ?_⟩
    walk_at "rdg"
    refine rd_draw dk (by decide) (by decide) fun e1 H1 o1 dk1 e10 e11 => ?_
    walk_at "rdg"
    refine rd_draw dk1 (by decide) (by decide) fun e2 H2 o2 dk2 e20 e21 => ?_
    walk_at "rdg"
    refine rd_draw dk2 (by decide) (by decide) fun e3 H3 o3 dk3 e30 e31 => ?_
    walk_at "rdg"
    refine rd_draw dk3 (by decide) (by decide) fun e4 H4 o4 dk4 e40 e41 => ?_
    have o04 := ((o1.trans o2).trans o3).trans o4
    walk_at "rdg"
    refine r_new (by show 5 ≤ 1000; decide) fun l hl => ?_
    obtain ⟨l1, l2⟩ := fresh_ne dk4 hl
    have sl := Same.new (o := .lst [.int e1, .int (9 + e2), .int (99 + e3), .int 999, .int e4]) hl
    walk_at "rdg"
    refine rd_draw (dk4.same sl) (by decide) (by decide) fun e5 H5 o5 dk5 e50 e51 => ?_
    have hL := o5 l _ l1 l2 upd_same
    obtain ⟨v, av, vm⟩ := atI_mem (xs := [V.int e1, .int (9 + e2), .int (99 + e3), .int 999, .int e4]) e50 e51
    refine r_ixL hL av ?_
    obtain ⟨i, rfl, hi⟩ : ∃ i : Int, v = .int i ∧ (0 ≤ i ∧ i < 2 ^ 20) := by
      have e9 : (10 : Int) ^ (6 : Int).toNat = 1000000 := rfl
      obtain ⟨i, rfl, hi⟩ := int_of (xs := [e1, 9 + e2, 99 + e3, 999, e4]) vm
      refine ⟨i, rfl, ?_⟩
      simp only [List.mem_cons, List.not_mem_nil, or_false] at hi
      omega
    have o05 := (o04.trans (Off.of sl)).trans o5
    walk_at "rdg"
    refine r_new (by show 2 ≤ 1000; decide) fun m hm => ?_
    obtain ⟨m1, m2⟩ := fresh_ne dk5 hm
    have sm := Same.new (o := .lst [.int 1, .int (-1)]) hm
    walk_at "rdg"
    refine rd_draw (dk5.same sm) (by decide) (by decide) fun e6 H6 o6 dk6 e60 e61 => ?_
    have hM := o6 m _ m1 m2 upd_same
    obtain ⟨v, av, vm⟩ := atI_mem (xs := [V.int 1, .int (-1)]) e60 e61
    refine r_ixL hM av ?_
    obtain ⟨sg, rfl, hs⟩ : ∃ sg : Int, v = .int sg ∧ (sg = 1 ∨ sg = -1) := by
      obtain ⟨i, rfl, hi⟩ := int_of (xs := [1, -1]) vm
      refine ⟨i, rfl, ?_⟩
      simpa using hi
    have o06 := (o05.trans (Off.of sm)).trans o6
    walk_at "rdg"
    refine r_I (wide_mul (a := 20) (b := 2) (by omega) (by omega) (by decide) (by decide) (by decide)) ?_
    walk_at "rdg"
    have cb : (i * sg).natAbs < 2 ^ 22 := natAbs_mul_lt (m := 20) (n := 2) (by omega) (by omega) (by decide)
    generalize i * sg = n at *
    refine r_new (by show 6 ≤ 1000; decide) fun l2' hl2 => ?_
    obtain ⟨q1, q2⟩ := fresh_ne dk6 hl2
    have s2 := Same.new (o := .lst [.int 1, .int 2, .int 4, .int 3, .int 10, .int 1000]) hl2
    walk_at "rdg"
    refine rd_draw (dk6.same s2) (by decide) (by decide) fun e7 H7 o7 dk7 e70 e71 => ?_
    have hL2 := o7 l2' _ q1 q2 upd_same
    obtain ⟨v, av, vm⟩ := atI_mem (xs := [V.int 1, .int 2, .int 4, .int 3, .int 10, .int 1000]) e70 e71
    refine r_ixL hL2 av ?_
    obtain ⟨p, rfl, hp⟩ : ∃ p : Int, v = .int p ∧ (0 < p ∧ p ≤ 1000) := by
      obtain ⟨i, rfl, hi⟩ := int_of (xs := [1, 2, 4, 3, 10, 1000]) vm
      refine ⟨i, rfl, ?_⟩
      simp only [List.mem_cons, List.not_mem_nil, or_false] at hi
      omega
    have o07 := (o06.trans (Off.of s2)).trans o7
    walk_at "rdg"
    refine ⟨_, _, rfl, ?_⟩
    walk_at "rdg"
    refine rd_draw dk7 hp.1 (Nat.lt_of_lt_of_le (by omega : p.natAbs < 2 ^ 10) (by decide)) fun e8 H8 o8 dk8 e80 e81 => ?_
    walk_at "rdg"
    refine r_new (by show 7 ≤ 1000; decide) fun l3 hl3 => ?_
    obtain ⟨z1, z2⟩ := fresh_ne dk8 hl3
    have s3 := Same.new (o := .lst [.int 0, .int (p / 2), .int (if p / 2 - 1 > 0 then p / 2 - 1 else 0), .int (p / 2 + 1), .int 1, .int (p - 1), .int e8]) hl3
    walk_at "rdg"
    refine rd_draw (dk8.same s3) (by decide) (by decide) fun e9 H9 o9 dk9 e90 e91 => ?_
    have hL3 := o9 l3 _ z1 z2 upd_same
    obtain ⟨v, av, vm⟩ := atI_mem (xs := [V.int 0, .int (p / 2), .int (if p / 2 - 1 > 0 then p / 2 - 1 else 0), .int (p / 2 + 1), .int 1, .int (p - 1), .int e8]) e90 e91
    refine r_ixL hL3 av ?_
    obtain ⟨r, rfl, _⟩ := int_of (xs := [0, p / 2, if p / 2 - 1 > 0 then p / 2 - 1 else 0, p / 2 + 1, 1, p - 1, e8]) vm
    have o09 := ((o07.trans o8).trans (Off.of s3)).trans o9
    have hg9 := o09.keep dk hg (fun _ z => by cases z)
    walk_at "rdg"
    refine r_ixT hg9 (atI_nat (j := 0) rfl) ?_
    walk_at "rdg"
    refine r_I (wide_mul (a := 22) (b := 10) cb (by omega) (by decide) (by decide) (by decide)) ?_
    walk_at "rdg"
    refine r_I hp.1 ?_
    have np : (n * p).natAbs < 2 ^ 32 := natAbs_mul_lt (m := 22) (n := 10) cb (by omega) (by decide)
    have rp : 0 ≤ r % p ∧ r % p < p := ⟨Int.emod_nonneg _ (by omega), Int.emod_lt_of_pos _ hp.1⟩
    have npr : (n * p + r % p).natAbs < 2 ^ 33 := by omega
    walk_at "rdg"
    refine r_I (wide_mul (a := 60) (b := 33) (by omega) npr (by decide) (by decide) (by decide)) ?_
    walk_at "rdg"
    refine r_ixT hg9 (atI_nat (j := 1) rfl) ?_
    walk_at "rdg"
    refine r_I (wide_mul (a := 60) (b := 10) (by omega) (by omega) (by decide) (by decide) (by decide)) ?_
    walk_at "rdg"
    refine r_new (by show 2 ≤ 1000; decide) fun pp hpp => ?_
    have bp : (b * p).natAbs < 2 ^ 70 := natAbs_mul_lt (m := 60) (n := 10) (by omega) (by omega) (by decide)
    refine k pp _ _ _ (o09.trans (Off.of (Same.new hpp))) (dk9.same (Same.new hpp)) upd_same (natAbs_mul_lt (m := 60) (n := 33) (by omega) npr (by decide)) ⟨Int.mul_pos hb.1 hp.1, by omega⟩
end
end My

namespace My
open PySem L2 LamX NdefX
theorem DeckAt.extN {H H' : Hp} {d c : Addr} (s : ExtN H H') (h : DeckAt H d c) : DeckAt H' d c := let ⟨a, n, xs, h1, h2, h3, h4⟩ := h; ⟨a, n, xs, s _ _ h1 (fun ps z => by cases z), s _ _ h2 (fun ps z => by cases z), h3, h4⟩
theorem tabs_off {T : List NTab} {H H' : Hp} {d c : Addr} (t : TabsN T H) (dk : DeckAt H d c) (o : Off d c H H') : TabsN T H' := fun p hp => by
  obtain ⟨ps, h1, h2, h3⟩ := t p hp
  refine ⟨ps, o.keep dk h1 (fun xs z => by cases z), h2, fun pos cv hc => ?_⟩
  obtain ⟨x, e, hco⟩ := h3 pos cv hc
  exact ⟨x, e, o.keep dk hco (fun xs z => by unfold CodeO at z; cases z)⟩
theorem NumAt.off {C p d c : Addr} {H H' : Hp} {x : Rat} (h : NumAt C H p x) (dk : DeckAt H d c) (o : Off d c H H') : NumAt C H' p x := let ⟨dx, e⟩ := h; ⟨dx, o.keep dk e (fun xs z => by cases z)⟩
def waysV : List V := [.str "up", .str "down", .str "high", .str "low", .str "half up", .str "half down", .str "half even", .str "half odd"]
theorem way_at {j : Nat} {x : V} (h : waysV[j]? = some x) : ∃ r : Way, x = .str (wname r) := by
  match j with
  | 0 => exact ⟨.up, (Option.some.inj h).symm⟩
  | 1 => exact ⟨.down, (Option.some.inj h).symm⟩
  | 2 => exact ⟨.high, (Option.some.inj h).symm⟩
  | 3 => exact ⟨.low, (Option.some.inj h).symm⟩
  | 4 => exact ⟨.hup, (Option.some.inj h).symm⟩
  | 5 => exact ⟨.hdown, (Option.some.inj h).symm⟩
  | 6 => exact ⟨.heven, (Option.some.inj h).symm⟩
  | 7 => exact ⟨.hodd, (Option.some.inj h).symm⟩
  | j + 8 => simp [waysV] at h
section
variable {P : Program} {w : World} {K : PySem.W.Frag} {mg : Str → Option Value} {base : Heap}
/-- the numbers of a turn, in the list l -/
def RowAt (C l : Addr) (H : Hp) (zs : List NZ) : Prop := H l = some (.lst (zs.map fun z => V.ref z.1)) ∧ NumZ C H zs
theorem RowAt.extN {C l : Addr} {H H' : Hp} {zs : List NZ} (s : ExtN H H') (h : RowAt C l H zs) : RowAt C l H' zs := ⟨s _ _ h.1 (fun ps z => by cases z), fun z hz => (h.2 z hz).extN s⟩
theorem RowAt.off {C l d c : Addr} {H H' : Hp} {zs : List NZ} (h : RowAt C l H zs) (dk : DeckAt H d c) (o : Off d c H H') (ld : l ≠ d) (lc : l ≠ c) : RowAt C l H' zs := ⟨o _ _ ld lc h.1, fun z hz => (h.2 z hz).off dk o⟩
theorem RowAt.put {C l p : Addr} {H : Hp} {zs : List NZ} {x : Rat} (h : RowAt C l H zs) (hp : NumAt C H p x) : RowAt C l (upd H l (.lst ((zs.map fun z => V.ref z.1) ++ [.ref p]))) (zs ++ [(p, x)]) := by
  have k : ∀ {q : Addr} {y : Rat}, NumAt C H q y → NumAt C (upd H l (.lst ((zs.map fun z => V.ref z.1) ++ [.ref p]))) q y := fun {q y} ⟨dx, e⟩ => ⟨dx, by rw [upd_ne (ne_of e h.1 fun z => by cases z)]; exact e⟩
  refine ⟨by rw [upd_same, List.map_append]; rfl, fun z hz => ?_⟩
  rcases List.mem_append.mp hz with hz | hz
  · exact k (h.2 z hz)
  · rw [List.mem_singleton.mp hz]; exact k hp
def spLaw (K : PySem.W.Frag) (T0 : Addr) : Sp := fun vs H Q _ => ∃ (a : Addr) (ns : List Int), vs = [.ref a] ∧ SqL K H a (ns.map V.int) ∧ ns.length ≤ 63 ∧ H T0 = some (.tbl #[]) ∧ ∀ H', Q (.bl true) H'
theorem okG_law (T : Txt w K mg) (TB : TabB base mg T.cc_M T.tt_M) : FnG P w K mg base 8 T.f_law T.fd_law ["_law_script"] (spLaw K T.tt_M) := by
  refine FnG.by_body T.F_law sc_law (fun vs H Q E h => ?_) (fun cdv A outer s H vs Q E hG hr h => ?_)
  · obtain ⟨a, ns, rfl, _⟩ := h
    rfl
  · obtain ⟨a, ns, rfl, hS, hl, hT, k⟩ := h
    have tabs : TabsN [(T.tt_M, nm_told)] H := fun p hp => by
      rw [List.mem_singleton.mp hp]
      exact TabN.nil hT
    refine ⟨_, (pss_cons (ps_set (i := 1) sc_law.nd rfl (Or.inl rfl) (pe_call (ok_l_deck T) (hr.mono (by decide)) (by rfl) T.m_l_deck T.F_l_deck.kp T.b_l_deck .nil pass0 (pa_cons (pv 0) pa_nil)))
 (pss_cons (ps_for PassesOwn.never rfl (pi_range1 rfl T.n_range (pa_cons pe_int pa_nil)) (pg_name (i := 2) sc_law.nd rfl (Or.inl rfl))
  (pss_cons (ps_set (i := 3) sc_law.nd rfl (Or.inl rfl) (pe_call (ok_l_grain T) (hr.mono (by decide)) (by rfl) T.m_l_grain T.F_l_grain.kp T.b_l_grain .nil pass0 (pa_cons (pv 1) pa_nil)))
 (pss_cons (ps_set (i := 4) sc_law.nd rfl (Or.inl rfl) (pe_op op_add pe_int (pe_call (ok_l_draw T) (hr.mono (by decide)) (by rfl) T.m_l_draw T.F_l_draw.kp T.b_l_draw .nil pass0 (pa_cons (pv 1) (pa_cons pe_int pa_nil)))))
 (pss_cons (ps_set (i := 5) sc_law.nd rfl (Or.inl rfl) (pe_make T.mk_Number (ok_Number_init T) (hr.mono (by decide)) (by rfl) T.m_Number T.b_Number_init2 .nil pass0 (pa_cons (pe_ix ix_tup (pv 3) pe_int (fun _ _ => rfl)) (pa_cons (pe_ix ix_tup (pv 3) pe_int (fun _ _ => rfl)) pa_nil))))
 (pss_cons (ps_set (i := 6) sc_law.nd rfl (Or.inl rfl) (pe_lst pa_nil))
 (pss_cons (ps_for PassesOwn.never rfl (pi_range1 rfl T.n_range (pa_cons pe_int pa_nil)) (pg_name (i := 7) sc_law.nd rfl (Or.inl rfl))
  (pss_cons (ps_asg (pe_call (ok_l_near T) (hr.mono (by decide)) (by rfl) T.m_l_near T.F_l_near.kp T.b_l_near .nil pass0 (pa_cons (pv 1) (pa_cons (pv 3) pa_nil))) (pg_tup rfl (pgs_cons (pg_name (i := 8) sc_law.nd rfl (Or.inl rfl)) (pgs_cons (pg_name (i := 9) sc_law.nd rfl (Or.inl rfl)) pgs_nil))))
 (pss_one (ps_expr (pe_bm PySem.F.plainAttrs_list PySem.F.slot_list_append PySem.F.type_list_append mt_append (pv 6) (pa_cons (pe_make T.mk_Number (ok_Number_init T) (hr.mono (by decide)) (by rfl) T.m_Number T.b_Number_init2 .nil pass0 (pa_cons (pv 8) (pa_cons (pv 9) pa_nil))) pa_nil))))))
 (pss_cons (ps_expr (pe_bm PySem.F.plainAttrs_list PySem.F.slot_list_append PySem.F.type_list_append mt_append (pv 6) (pa_cons (pe_meth (pe_ix ix_list (pv 6) pe_int (fun _ _ => rfl)) T.c_Number T.me_Number_more (ok_Number_more T) (hr.mono (by decide)) T.b_Number_more .nil pass0 (pa_cons (pe_meth (pv 5) T.c_Number T.me_Number_over (ok_Number_over T) (hr.mono (by decide)) T.b_Number_over .nil pass0 (pa_cons (pe_make T.mk_Number (ok_Number_init T) (hr.mono (by decide)) (by rfl) T.m_Number T.b_Number_init1 T.d_Number_init1 pass0 (pa_cons pe_int pa_nil)) pa_nil)) pa_nil)) pa_nil)))
 (pss_one (ps_for PassesOwn.never rfl (pi_tup (pe_glob (v := .ref T.A_WAYS) (by rfl) T.m_WAYS rfl)) (pg_name (i := 10) sc_law.nd rfl (Or.inl rfl))
  (pss_cons (ps_for PassesOwn.never rfl (pi_list (pv 6)) (pg_name (i := 11) sc_law.nd rfl (Or.inl rfl))
  (pss_one (ps_if (pt_not (pt_val (pe_call ((fun _ => ok_l_one_right T TB) T) (hr.mono (by decide)) (by rfl) T.m_l_one_right T.F_l_one_right.kp T.b_l_one_right .nil pass0 (pa_cons (pv 11) (pa_cons (pv 5) (pa_cons (pv 10) (pa_cons (pv 4) pa_nil)))))))
  (pss_one (ps_ret pe_bl))
  pss_nil)))
 (pss_one (ps_if (pt_not (pt_val (pe_call (ok_l_order_right T) (hr.mono (by decide)) (by rfl) T.m_l_order_right T.F_l_order_right.kp T.b_l_order_right .nil pass0 (pa_cons (pv 6) (pa_cons (pv 5) (pa_cons (pv 10) pa_nil))))))
  (pss_one (ps_ret pe_bl))
  pss_nil))))))))))))
 (pss_one (ps_ret pe_bl)))), ?_⟩
    have m9 : ∀ {i : Int} {m : Nat}, i.natAbs < 2 ^ m → m ≤ 9000 → i.natAbs < 2 ^ 9000 := fun h l => Nat.lt_of_lt_of_le h (Nat.pow_le_pow_right (by decide) l)
    walk_at "rdh"
    refine ⟨a, ns, rfl, hS, hl, fun d c H1 s1 dk => ?_⟩
    walk_at "rdh"
    refine r_rng1 ?_
    walk_at "rdh"
    refine ⟨10, rfl, by decide, by decide, for_range (lo := 0) (n := 10) (fun i σ H' => (∃ v2 v3 v4 v5 v6 v7 v8 v9 v10 v11 : Option V, σ = [some (.ref a), some (.ref d), v2, v3, v4, v5, v6, v7, v8, v9, v10, v11]) ∧ DeckAt H' d c ∧ TabsN [(T.tt_M, nm_told)] H')
      ⟨⟨_, _, _, _, _, _, _, _, _, _, rfl⟩, dk, tabs_same tabs s1⟩ ?_ ?_⟩
    · rintro i σ H2 hi ⟨⟨v2, v3, v4, v5, v6, v7, v8, v9, v10, v11, rfl⟩, dk2, t2⟩
      walk_at "rdh"
      refine ⟨d, c, rfl, dk2, fun g ga gb H3 o3 dk3 hg ha hb => ?_⟩
      have t3 := tabs_off t2 dk2 o3
      walk_at "rdh"
      refine rd_draw dk3 (by decide) (by decide) fun e H4 o4 dk4 e0 e1 => ?_
      have t4 := tabs_off t3 dk3 o4
      have hg4 := o4.keep dk3 hg (fun xs z => by cases z)
      walk_at "rdh"
      refine r_ixT hg4 (atI_nat (j := 0) rfl) ?_
      walk_at "rdh"
      refine r_ixT hg4 (atI_nat (j := 1) rfl) ?_
      walk_at "rdh"
      refine mk_num (by omega) (m9 (show gb.natAbs < 2 ^ 61 by omega) (by decide)) fun u H5 s5 _ hu => ?_
      have y0 : 0 < Rat.divInt ga gb := by
        rw [Rat.divInt_eq_div]
        have a1 : (0 : Rat) < (ga : Rat) := Rat.intCast_pos.mpr ha.1
        have a2 : (0 : Rat) < (gb : Rat) := Rat.intCast_pos.mpr hb.1
        exact (Rat.lt_div_iff a2).mpr (by grind)
      have by' : Bd 61 (Rat.divInt ga gb) := Bd.of (n := 61) (by omega) (by omega) (by omega)
      have em : 1 ≤ 1 + e ∧ 1 + e ≤ 50 := by omega
      generalize 1 + e = more at *
      walk_at "rdh"
      refine r_new (by show 0 ≤ 1000; decide) fun l hl' => ?_
      have dk5 := dk4.same s5
      obtain ⟨ld, lc⟩ := fresh_ne dk5 hl'
      have s6 := Same.new (o := .lst []) hl'
      have e6 := upd_same (H := H5) (a := l) (o := HO.lst [])
      generalize upd H5 l (.lst []) = H6 at *
      have dk6 := dk5.same s6
      have t6 := tabs_same t4 (s5.trans s6)
      have hu6 := hu.same s6
      have hg6 := s6 _ _ (s5 _ _ hg4)
      walk_at "rdh"
      refine r_rng1 ?_
      walk_at "rdh"
      refine ⟨4, rfl, by decide, by decide, for_range (lo := 0) (n := 4) (fun j σ H' => (∃ v7 v8 v9 v10 v11 : Option V, σ = [some (.ref a), some (.ref d), some (.int (0 + (i : Int))), some (.ref g), some (.int more), some (.ref u), some (.ref l), v7, v8, v9, v10, v11]) ∧ DeckAt H' d c ∧ TabsN [(T.tt_M, nm_told)] H' ∧ NumAt T.C_Number H' u (Rat.divInt ga gb) ∧ H' g = some (.tup [.int ga, .int gb]) ∧ ∃ zs : List NZ, RowAt T.C_Number l H' zs ∧ zs.length = j ∧ ∀ z ∈ zs, Bd 110 z.2)
        ⟨⟨_, _, _, _, _, rfl⟩, dk6, t6, hu6, hg6, [], ⟨e6, fun z hz => by cases hz⟩, rfl, fun z hz => by cases hz⟩ ?_ ?_⟩
      · rintro j σ H7 hj ⟨⟨v7, v8, v9, v10, v11, rfl⟩, dk7, t7, hu7, hg7, zs, row, lz, bz⟩
        walk_at "rdh"
        refine ⟨d, c, g, ga, gb, rfl, dk7, hg7, ha, hb, fun p t b H8 o8 dk8 hp ht hb' => ?_⟩
        refine r_gTup hp rfl ?_
        have row8 := row.off dk7 o8 ld lc
        walk_at "rdh"
        refine ⟨ty_list row8.1, ?_⟩
        walk_at "rdh"
        refine mk_num (by omega) (m9 (show b.natAbs < 2 ^ 72 by omega) (by decide)) fun q H9 s9 _ hq => ?_
        walk_at "rdh"
        have row9 : RowAt T.C_Number l H9 zs := ⟨s9 _ _ row8.1, row8.2.same s9⟩
        refine r_append row9.1 (by rw [List.length_map]; omega) ?_
        have dk9 := dk8.same s9
        have ku : ∀ {o : HO} {b : Addr} {x : HO}, b ≠ l → H9 b = some x → upd H9 l o b = some x := fun n e => by rw [upd_ne n]; exact e
        walk_at "rdh"
        refine ⟨⟨_, _, _, _, _, rfl⟩, ?_, ?_, ?_, ?_, zs ++ [(q, Rat.divInt t b)], row9.put hq, by rw [List.length_append, lz]; rfl, fun z hz => ?_⟩
        · obtain ⟨x1, x2, x3, h1, h2, h3, h4⟩ := dk9
          exact ⟨x1, x2, x3, ku (Ne.symm ld) h1, ku (Ne.symm lc) h2, h3, h4⟩
        · have t9 := tabs_same (tabs_off t7 dk7 o8) s9
          intro p hp
          obtain ⟨ps, h1, h2, h3⟩ := t9 p hp
          refine ⟨ps, ku (ne_of h1 row9.1 fun z => by cases z) h1, h2, fun pos cv hc => ?_⟩
          obtain ⟨x, e, hco⟩ := h3 pos cv hc
          exact ⟨x, e, ku (ne_of hco row9.1 fun z => by unfold CodeO at z; cases z) hco⟩
        · obtain ⟨dx, e⟩ := (hu7.off dk7 o8).same s9
          exact ⟨dx, ku (ne_of e row9.1 fun z => by cases z) e⟩
        · have := s9 _ _ (o8.keep dk7 hg7 (fun xs z => by cases z))
          exact ku (ne_of this row9.1 fun z => by cases z) this
        · rcases List.mem_append.mp hz with hz | hz
          · exact bz z hz
          · rw [List.mem_singleton.mp hz]
            exact Bd.of (n := 110) (by omega) (Nat.lt_of_lt_of_le ht (by decide)) (Nat.lt_of_lt_of_le (show b.natAbs < 2 ^ 72 by omega) (by decide))
      · rintro σ H7 ⟨⟨v7, v8, v9, v10, v11, rfl⟩, dk7, t7, hu7, hg7, zs, row, lz, bz⟩
        dsimp only
        obtain ⟨z0, zr, rfl⟩ : ∃ z r, zs = z :: r := by
          match zs, lz with
          | z :: r, _ => exact ⟨z, r, rfl⟩
        have m0 : z0 ∈ z0 :: zr := List.mem_cons_self ..
        walk_at "rdh"
        refine ⟨ty_list row.1, ?_⟩
        walk_at "rdh"
        refine r_ixL row.1 (atI_nat (j := 0) rfl) ?_
        obtain ⟨d0, e0'⟩ := row.2 z0 m0
        refine r_meth1 e0' (no_more _) ?_
        walk_at "rdh"
        obtain ⟨du, eu⟩ := id hu7
        refine r_meth1 eu (no_over _) ?_
        walk_at "rdh"
        refine mk_num1 fun c7 H8 s8 _ h7 => ?_
        walk_at "rdh"
        have b7 : Bd 3 ((7 : Int) : Rat) := Bd.int (by decide) (by decide)
        have n7 : ((7 : Int) : Rat) ≠ 0 := by decide +kernel
        refine ⟨u, c7, _, _, rfl, hu7.same s8, h7, by'.mono (by decide), b7.mono (by decide), n7, fun q H9 s9 _ hq => ?_⟩
        walk_at "rdh"
        have s79 := s8.trans s9
        have bq := Bd.div by' b7 n7
        refine ⟨z0.1, q, z0.2, _, rfl, (row.2 z0 m0).same s79, hq, (bz z0 m0).mono (by decide), bq.mono (by decide), trivial, fun q2 HA sa _ hq2 => ?_⟩
        have s7A := s79.trans sa
        have rowA : RowAt T.C_Number l HA (z0 :: zr) := ⟨s7A _ _ row.1, row.2.same s7A⟩
        walk_at "rdh"
        refine r_append rowA.1 (by rw [List.length_map, lz]; decide) ?_
        have rowB := rowA.put hq2
        have bzB : ∀ z ∈ (z0 :: zr) ++ [(q2, z0.2 + Rat.divInt ga gb / ((7 : Int) : Rat))], Bd 300 z.2 := fun z hz => by
          rcases List.mem_append.mp hz with hz | hz
          · exact (bz z hz).mono (by decide)
          · rw [List.mem_singleton.mp hz]
            exact (Bd.add (bz z0 m0) bq).mono (by decide)
        have ku : ∀ {o : HO} {b : Addr} {x : HO}, b ≠ l → HA b = some x → upd HA l o b = some x := fun n e => by rw [upd_ne n]; exact e
        have dkB : DeckAt (upd HA l (.lst (((z0 :: zr).map fun z => V.ref z.1) ++ [.ref q2]))) d c := by
          obtain ⟨x1, x2, x3, h1, h2, h3, h4⟩ := dk7.same s7A
          exact ⟨x1, x2, x3, ku (Ne.symm ld) h1, ku (Ne.symm lc) h2, h3, h4⟩
        have tB : TabsN [(T.tt_M, nm_told)] (upd HA l (.lst (((z0 :: zr).map fun z => V.ref z.1) ++ [.ref q2]))) := by
          have t9 := tabs_same t7 s7A
          intro p hp
          obtain ⟨ps, h1, h2, h3⟩ := t9 p hp
          refine ⟨ps, ku (ne_of h1 rowA.1 fun z => by cases z) h1, h2, fun pos cv hc => ?_⟩
          obtain ⟨x, e, hco⟩ := h3 pos cv hc
          exact ⟨x, e, ku (ne_of hco rowA.1 fun z => by unfold CodeO at z; cases z) hco⟩
        have huB : NumAt T.C_Number (upd HA l (.lst (((z0 :: zr).map fun z => V.ref z.1) ++ [.ref q2]))) u (Rat.divInt ga gb) := by
          obtain ⟨dx, e⟩ := hu7.same s7A
          exact ⟨dx, ku (ne_of e rowA.1 fun z => by cases z) e⟩
        have zl : ((z0 :: zr) ++ [(q2, z0.2 + Rat.divInt ga gb / ((7 : Int) : Rat))]).length ≤ 10 := by rw [List.length_append, lz]; show 4 + 1 ≤ 10; decide
        generalize (z0 :: zr) ++ [(q2, z0.2 + Rat.divInt ga gb / ((7 : Int) : Rat))] = ys at *
        generalize upd HA l (.lst (((z0 :: zr).map fun z => V.ref z.1) ++ [.ref q2])) = HB at *
        walk_at "rdh"
        refine r_forT ?_
        walk_at "rdh"
        refine ⟨T.A_WAYS, rfl, ⟨_, T.t_WAYS _⟩, for_tup (K := K) (a := T.A_WAYS) (xs := waysV) (fun j σ H' => (∃ v10 v11 : Option V, σ = [some (.ref a), some (.ref d), some (.int (0 + (i : Int))), some (.ref g), some (.int more), some (.ref u), some (.ref l), v7, v8, v9, v10, v11]) ∧ DeckAt H' d c ∧ TabsN [(T.tt_M, nm_told)] H' ∧ NumAt T.C_Number H' u (Rat.divInt ga gb) ∧ RowAt T.C_Number l H' ys)
          ⟨⟨_, _, rfl⟩, dkB, tB, huB, rowB⟩ (fun j σ H' _ _ => T.t_WAYS _) ?_ ?_⟩
        · rintro j z σ HC hz ⟨⟨v10, v11, rfl⟩, dkC, tC', huC, rowC⟩
          obtain ⟨r, rfl⟩ := way_at hz
          walk_at "rdh"
          refine r_forL ?_
          walk_at "rdh"
          refine ⟨l, rfl, ⟨_, SqL.of rowC.1⟩, for_list (K := K) (a := l) (xs := ys.map fun z => V.ref z.1) (fun j σ H' => (∃ v11 : Option V, σ = [some (.ref a), some (.ref d), some (.int (0 + (i : Int))), some (.ref g), some (.int more), some (.ref u), some (.ref l), v7, v8, v9, some (.str (wname r)), v11]) ∧ DeckAt H' d c ∧ TabsN [(T.tt_M, nm_told)] H' ∧ NumAt T.C_Number H' u (Rat.divInt ga gb) ∧ RowAt T.C_Number l H' ys)
            ⟨⟨_, rfl⟩, dkC, tC', huC, rowC⟩ (fun j σ H' _ h => SqL.of h.2.2.2.2.1) ?_ ?_⟩
          · rintro j2 v σ HD hv ⟨⟨v11, rfl⟩, dkD, tD, huD, rowD⟩
            obtain ⟨z, ez, rfl⟩ : ∃ z, ys[j2]? = some z ∧ V.ref z.1 = v := by
              rw [List.getElem?_map] at hv
              cases e : ys[j2]? with
              | none => rw [e] at hv; cases hv
              | some z => rw [e] at hv; exact ⟨z, rfl, Option.some.inj hv⟩
            have zm := List.mem_of_getElem? ez
            walk_at "rdh"
            refine ⟨z.1, u, r, more, z.2, _, rfl, rowD.2 z zm, huD, bzB z zm, by'.mono (by decide), y0, em, tD, fun HE xE tE => ?_⟩
            walk_at "rdh"
            refine r_iteF rfl ?_
            walk_at "rdh"
            exact ⟨⟨_, rfl⟩, dkD.extN xE, tE, huD.extN xE, rowD.extN xE⟩
          · rintro σ HD ⟨⟨v11, rfl⟩, dkD, tD, huD, rowD⟩
            walk_at "rdh"
            refine ⟨l, u, r, ys, _, rfl, rowD.1, rowD.2, bzB, zl, huD, by'.mono (by decide), y0, fun HE sE => ?_⟩
            walk_at "rdh"
            refine r_iteF rfl ?_
            walk_at "rdh"
            exact ⟨⟨_, _, rfl⟩, dkD.same sE, tabs_same tD sE, huD.same sE, ⟨sE _ _ rowD.1, rowD.2.same sE⟩⟩
        · rintro σ HC ⟨⟨v10, v11, rfl⟩, dkC, tC', _⟩
          walk_at "rdh"
          exact ⟨⟨_, _, _, _, _, _, _, _, _, _, rfl⟩, dkC, tC'⟩
    · rintro σ H2 ⟨⟨v2, v3, v4, v5, v6, v7, v8, v9, v10, v11, rfl⟩, dk2, t2⟩
      walk_at "rdh"
      exact k _
end
end My

namespace My
open PySem L2
theorem kit_self {K : PySem.W.Frag} {C : Addr} : PySem.W.kitOne K (.ref C) (.ref C) = some true := if_pos (by simp)
theorem bi_Number_init {K : PySem.W.Frag} {f : Addr} {fd : FuncData} (F : FunD K "__init__" "Number.__init__" (defArgs s_Number_init) (defBody s_Number_init) (defScope s_Number_init) [V.int 1] [] f fd) :
    Binds K fd ["self", "top", "bottom"] [] ∧ ∃ ds : List Value, Vals [V.int 1] ds ∧ Binds K fd ["self", "top", "bottom"] ds := by
  constructor
  · obtain ⟨ds, r, b⟩ := F.binds1 (ps := ["self", "top", "bottom"]) 3 1 (by simp) rfl fun T kV doc pm an cdv ct us its h1 h2 => match us, its, h1, h2 with | [_, _, _], [_], _, _ => ⟨_, rfl, rfl⟩
    cases r
    exact b
  · exact F.binds1 (ps := ["self", "top", "bottom"]) 2 0 (by simp) rfl fun T kV doc pm an cdv ct us its h1 h2 => match us, its, h1, h2 with | [_, _], [_], _, _ => ⟨_, rfl, rfl⟩
theorem bi_rounded {K : PySem.W.Frag} {f : Addr} {fd : FuncData} (F : FunD K "rounded" "rounded" (defArgs s_rounded) (defBody s_rounded) (defScope s_rounded) [] [(("way" : Str), V.str "half even")] f fd) :
    KBn K fd ["number", "step", "way"] 2 ["way"] (fun us ws => us ++ ws) (fun vs zs => vs ++ zs) ∧ ∃ ds : List Value, Vals [V.str "half even"] ds ∧ Binds K fd ["number", "step", "way"] ds := by
  constructor
  · obtain ⟨oc, od, dV, kV, doc, pm, an, cdv, ct, osl, rfl, lk, hcd, hD, hK⟩ := F.ex
    rcases hD with ⟨_, rfl⟩ | ⟨e, _⟩
    · rcases hK with e | ⟨D, rfl, hq⟩
      · cases e
      · exact ⟨fun s us ws X h1 h2 => match us, ws, h1, h2 with | [_, _], [_], _, _ => .of_eq rfl, fun r1 r2 => r1.append r2⟩
    · exact absurd rfl e
  · exact F.binds0 (ps := ["number", "step", "way"]) 2 (by simp) rfl fun D doc pm an cdv ct us ks h1 h2 => match us, ks, h1, h2 with | [_, _], [_], _, _ => ⟨_, _, _, _, _, _, rfl, rfl, rfl⟩
theorem bi_round_paper {K : PySem.W.Frag} {f : Addr} {fd : FuncData} (F : FunD K "round_paper" "round_paper" (defArgs s_round_paper) (defBody s_round_paper) (defScope s_round_paper) [] [(("way" : Str), V.str "half even")] f fd) :
    KBn K fd ["number", "step", "way"] 2 ["way"] (fun us ws => us ++ ws) (fun vs zs => vs ++ zs) ∧ ∃ ds : List Value, Vals [V.str "half even"] ds ∧ Binds K fd ["number", "step", "way"] ds := by
  constructor
  · obtain ⟨oc, od, dV, kV, doc, pm, an, cdv, ct, osl, rfl, lk, hcd, hD, hK⟩ := F.ex
    rcases hD with ⟨_, rfl⟩ | ⟨e, _⟩
    · rcases hK with e | ⟨D, rfl, hq⟩
      · cases e
      · exact ⟨fun s us ws X h1 h2 => match us, ws, h1, h2 with | [_, _], [_], _, _ => .of_eq rfl, fun r1 r2 => r1.append r2⟩
    · exact absurd rfl e
  · exact F.binds0 (ps := ["number", "step", "way"]) 2 (by simp) rfl fun D doc pm an cdv ct us ks h1 h2 => match us, ks, h1, h2 with | [_, _], [_], _, _ => ⟨_, _, _, _, _, _, rfl, rfl, rfl⟩
theorem all_mk {l : PySem.W.OpenLaw} {w : World} {K : PySem.W.Frag} {h : Heap} {mg : Str → Option Value} {fa : Addr} (X : K.In h) (G : h.Ns mainGlobals mg) (hfa : mg "law" = some (.ref fa))
    {C_Number : Addr}
    {f_Number_init : Addr} {od_Number_init an_Number_init : Option Addr} {sl_Number_init : Array (Option Value)} {oc_Number_init dc_Number_init pm_Number_init cd_Number_init ct_Number_init : Value}
    {kV_Number_init : Value}
    {Td_Number_init : Addr} {cT_Number_init : Value} {dT_Number_init : Option Addr} {nT_Number_init : Nat} {sT_Number_init : Array (Option Value)} {tk_Number_init : Tok}
    {f_Number_eq : Addr} {od_Number_eq an_Number_eq : Option Addr} {sl_Number_eq : Array (Option Value)} {oc_Number_eq dc_Number_eq pm_Number_eq cd_Number_eq ct_Number_eq : Value}
    {kV_Number_eq : Value}
    {f_Number_more : Addr} {od_Number_more an_Number_more : Option Addr} {sl_Number_more : Array (Option Value)} {oc_Number_more dc_Number_more pm_Number_more cd_Number_more ct_Number_more : Value}
    {kV_Number_more : Value}
    {f_Number_less : Addr} {od_Number_less an_Number_less : Option Addr} {sl_Number_less : Array (Option Value)} {oc_Number_less dc_Number_less pm_Number_less cd_Number_less ct_Number_less : Value}
    {kV_Number_less : Value}
    {f_Number_times : Addr} {od_Number_times an_Number_times : Option Addr} {sl_Number_times : Array (Option Value)} {oc_Number_times dc_Number_times pm_Number_times cd_Number_times ct_Number_times : Value}
    {kV_Number_times : Value}
    {f_Number_over : Addr} {od_Number_over an_Number_over : Option Addr} {sl_Number_over : Array (Option Value)} {oc_Number_over dc_Number_over pm_Number_over cd_Number_over ct_Number_over : Value}
    {kV_Number_over : Value}
    {f_Number_below : Addr} {od_Number_below an_Number_below : Option Addr} {sl_Number_below : Array (Option Value)} {oc_Number_below dc_Number_below pm_Number_below cd_Number_below ct_Number_below : Value}
    {kV_Number_below : Value}
    {f_Number_size : Addr} {od_Number_size an_Number_size : Option Addr} {sl_Number_size : Array (Option Value)} {oc_Number_size dc_Number_size pm_Number_size cd_Number_size ct_Number_size : Value}
    {kV_Number_size : Value}
    {f_Number_floor : Addr} {od_Number_floor an_Number_floor : Option Addr} {sl_Number_floor : Array (Option Value)} {oc_Number_floor dc_Number_floor pm_Number_floor cd_Number_floor ct_Number_floor : Value}
    {kV_Number_floor : Value}
    {f_neighbours : Addr} {od_neighbours an_neighbours : Option Addr} {sl_neighbours : Array (Option Value)} {oc_neighbours dc_neighbours pm_neighbours cd_neighbours ct_neighbours : Value}
    {kV_neighbours : Value}
    {f_rounded : Addr} {od_rounded an_rounded : Option Addr} {sl_rounded : Array (Option Value)} {oc_rounded dc_rounded pm_rounded cd_rounded ct_rounded : Value}
    {Kd_rounded : Addr} {tw_rounded : Tok}
    {f_round_paper : Addr} {od_round_paper an_round_paper : Option Addr} {sl_round_paper : Array (Option Value)} {oc_round_paper dc_round_paper pm_round_paper cd_round_paper ct_round_paper : Value}
    {Kd_round_paper : Addr} {tw_round_paper : Tok}
    {f_place_of : Addr} {od_place_of an_place_of : Option Addr} {sl_place_of : Array (Option Value)} {oc_place_of dc_place_of pm_place_of cd_place_of ct_place_of : Value}
    {kV_place_of : Value}
    {f_by_up : Addr} {od_by_up an_by_up : Option Addr} {sl_by_up : Array (Option Value)} {oc_by_up dc_by_up pm_by_up cd_by_up ct_by_up : Value}
    {kV_by_up : Value}
    {f_by_down : Addr} {od_by_down an_by_down : Option Addr} {sl_by_down : Array (Option Value)} {oc_by_down dc_by_down pm_by_down cd_by_down ct_by_down : Value}
    {kV_by_down : Value}
    {f_by_high : Addr} {od_by_high an_by_high : Option Addr} {sl_by_high : Array (Option Value)} {oc_by_high dc_by_high pm_by_high cd_by_high ct_by_high : Value}
    {kV_by_high : Value}
    {f_by_low : Addr} {od_by_low an_by_low : Option Addr} {sl_by_low : Array (Option Value)} {oc_by_low dc_by_low pm_by_low cd_by_low ct_by_low : Value}
    {kV_by_low : Value}
    {f_by_half_up : Addr} {od_by_half_up an_by_half_up : Option Addr} {sl_by_half_up : Array (Option Value)} {oc_by_half_up dc_by_half_up pm_by_half_up cd_by_half_up ct_by_half_up : Value}
    {kV_by_half_up : Value}
    {f_by_half_down : Addr} {od_by_half_down an_by_half_down : Option Addr} {sl_by_half_down : Array (Option Value)} {oc_by_half_down dc_by_half_down pm_by_half_down cd_by_half_down ct_by_half_down : Value}
    {kV_by_half_down : Value}
    {f_by_half_even : Addr} {od_by_half_even an_by_half_even : Option Addr} {sl_by_half_even : Array (Option Value)} {oc_by_half_even dc_by_half_even pm_by_half_even cd_by_half_even ct_by_half_even : Value}
    {kV_by_half_even : Value}
    {f_by_half_odd : Addr} {od_by_half_odd an_by_half_odd : Option Addr} {sl_by_half_odd : Array (Option Value)} {oc_by_half_odd dc_by_half_odd pm_by_half_odd cd_by_half_odd ct_by_half_odd : Value}
    {kV_by_half_odd : Value}
    {f_nearer : Addr} {od_nearer an_nearer : Option Addr} {sl_nearer : Array (Option Value)} {oc_nearer dc_nearer pm_nearer cd_nearer ct_nearer : Value}
    {kV_nearer : Value}
    {f_l_deck : Addr} {od_l_deck an_l_deck : Option Addr} {sl_l_deck : Array (Option Value)} {oc_l_deck dc_l_deck pm_l_deck cd_l_deck ct_l_deck : Value}
    {kV_l_deck : Value}
    {f_l_draw : Addr} {od_l_draw an_l_draw : Option Addr} {sl_l_draw : Array (Option Value)} {oc_l_draw dc_l_draw pm_l_draw cd_l_draw ct_l_draw : Value}
    {kV_l_draw : Value}
    {f_l_grain : Addr} {od_l_grain an_l_grain : Option Addr} {sl_l_grain : Array (Option Value)} {oc_l_grain dc_l_grain pm_l_grain cd_l_grain ct_l_grain : Value}
    {kV_l_grain : Value}
    {f_l_near : Addr} {od_l_near an_l_near : Option Addr} {sl_l_near : Array (Option Value)} {oc_l_near dc_l_near pm_l_near cd_l_near ct_l_near : Value}
    {kV_l_near : Value}
    {f_l_function : Addr} {od_l_function an_l_function : Option Addr} {sl_l_function : Array (Option Value)} {oc_l_function dc_l_function pm_l_function cd_l_function ct_l_function : Value}
    {kV_l_function : Value}
    {f_l_one_right : Addr} {od_l_one_right an_l_one_right : Option Addr} {sl_l_one_right : Array (Option Value)} {oc_l_one_right dc_l_one_right pm_l_one_right cd_l_one_right ct_l_one_right : Value}
    {kV_l_one_right : Value}
    {f_l_order_right : Addr} {od_l_order_right an_l_order_right : Option Addr} {sl_l_order_right : Array (Option Value)} {oc_l_order_right dc_l_order_right pm_l_order_right cd_l_order_right ct_l_order_right : Value}
    {kV_l_order_right : Value}
    {f_law : Addr} {od_law an_law : Option Addr} {sl_law : Array (Option Value)} {oc_law dc_law pm_law cd_law ct_law : Value}
    {kV_law : Value}
    {A_WAYS : Addr} {dW : Option Addr} {nW : Nat} {sW : Array (Option Value)} {tW0 tW1 tW2 tW3 tW4 tW5 tW6 tW7 : Tok}
    {D_RULES : Addr} {es_RULES : Array DictEntry} {en_RULES : Nat}
    {cc_M tt_M : Addr} {cv_M : Value} {cq_M : Option Addr} {cu_M : Array Value} {cs_M : Array (Option Value)}
    (aC_Number : PySem.W.nsIn K mainGlobals "Number" = some (some (.ref C_Number)))
    (pg_Number : PySem.W.plainGet K C_Number Str.empty = true)
    (hd_Number : PySem.W.hasDictIn K C_Number = true)
    (po_Number : PySem.W.plainOver K C_Number = true)
    (sa_Number : PySem.W.findIn K (.ref C_Number) "__setattr__" = some (some (.builtin "object.__setattr__")))
    (nf_Number_top : PySem.W.findIn K (.ref C_Number) "top" = some none)
    (nf_Number_bottom : PySem.W.findIn K (.ref C_Number) "bottom" = some none)
    (tc_Number : PySem.W.findIn K (.ref C_Number) "__class__" = some (some (.builtin "object.__class__")))
    (tg_Number : PySem.W.specialIn K (.builtin "object.__class__") "__get__" = some (some (.builtin "getset_descriptor.__get__")))
    (tt_Number : PySem.W.takesIn K (.builtin "object.__class__") = some true)
    (tm_Number : PySem.W.mroIn K C_Number (.type "object") = some true)
    (nn_Number : PySem.W.findIn K (.ref C_Number) "__ne__" = some (some (.builtin "object.__ne__")))
    (mi_Number : PySem.W.makesIn K C_Number = true)
    (kc_Number : PySem.W.keepIn K (.ref C_Number) = true)
    (a_Number_init : PySem.W.findIn K (.ref C_Number) "__init__" = some (some (.ref f_Number_init)))
    (i_Number_init : PySem.W.isFn K (.ref f_Number_init) = true)
    (l_Number_init : K.lookup f_Number_init = some ⟨oc_Number_init, od_Number_init, .func (PySem.W.fnOf "__init__" "Number.__init__" (defArgs s_Number_init) (defBody s_Number_init) (defScope s_Number_init) (.ref Td_Number_init) kV_Number_init dc_Number_init pm_Number_init an_Number_init cd_Number_init ct_Number_init), sl_Number_init⟩)
    (c_Number_init : PySem.W.codeIn K cd_Number_init "Number.__init__" = true)
    (k_Number_init : PySem.W.keepIn K (.ref f_Number_init) = true)
    (T_Number_init : K.lookup Td_Number_init = some ⟨cT_Number_init, dT_Number_init, .seq #[.int 1 tk_Number_init] nT_Number_init, sT_Number_init⟩)
    (a_Number_eq : PySem.W.findIn K (.ref C_Number) "__eq__" = some (some (.ref f_Number_eq)))
    (i_Number_eq : PySem.W.isFn K (.ref f_Number_eq) = true)
    (l_Number_eq : K.lookup f_Number_eq = some ⟨oc_Number_eq, od_Number_eq, .func (PySem.W.fnOf "__eq__" "Number.__eq__" (defArgs s_Number_eq) (defBody s_Number_eq) (defScope s_Number_eq) .none kV_Number_eq dc_Number_eq pm_Number_eq an_Number_eq cd_Number_eq ct_Number_eq), sl_Number_eq⟩)
    (c_Number_eq : PySem.W.codeIn K cd_Number_eq "Number.__eq__" = true)
    (k_Number_eq : PySem.W.keepIn K (.ref f_Number_eq) = true)
    (a_Number_more : PySem.W.findIn K (.ref C_Number) "more" = some (some (.ref f_Number_more)))
    (i_Number_more : PySem.W.isFn K (.ref f_Number_more) = true)
    (l_Number_more : K.lookup f_Number_more = some ⟨oc_Number_more, od_Number_more, .func (PySem.W.fnOf "more" "Number.more" (defArgs s_Number_more) (defBody s_Number_more) (defScope s_Number_more) .none kV_Number_more dc_Number_more pm_Number_more an_Number_more cd_Number_more ct_Number_more), sl_Number_more⟩)
    (c_Number_more : PySem.W.codeIn K cd_Number_more "Number.more" = true)
    (k_Number_more : PySem.W.keepIn K (.ref f_Number_more) = true)
    (a_Number_less : PySem.W.findIn K (.ref C_Number) "less" = some (some (.ref f_Number_less)))
    (i_Number_less : PySem.W.isFn K (.ref f_Number_less) = true)
    (l_Number_less : K.lookup f_Number_less = some ⟨oc_Number_less, od_Number_less, .func (PySem.W.fnOf "less" "Number.less" (defArgs s_Number_less) (defBody s_Number_less) (defScope s_Number_less) .none kV_Number_less dc_Number_less pm_Number_less an_Number_less cd_Number_less ct_Number_less), sl_Number_less⟩)
    (c_Number_less : PySem.W.codeIn K cd_Number_less "Number.less" = true)
    (k_Number_less : PySem.W.keepIn K (.ref f_Number_less) = true)
    (a_Number_times : PySem.W.findIn K (.ref C_Number) "times" = some (some (.ref f_Number_times)))
    (i_Number_times : PySem.W.isFn K (.ref f_Number_times) = true)
    (l_Number_times : K.lookup f_Number_times = some ⟨oc_Number_times, od_Number_times, .func (PySem.W.fnOf "times" "Number.times" (defArgs s_Number_times) (defBody s_Number_times) (defScope s_Number_times) .none kV_Number_times dc_Number_times pm_Number_times an_Number_times cd_Number_times ct_Number_times), sl_Number_times⟩)
    (c_Number_times : PySem.W.codeIn K cd_Number_times "Number.times" = true)
    (k_Number_times : PySem.W.keepIn K (.ref f_Number_times) = true)
    (a_Number_over : PySem.W.findIn K (.ref C_Number) "over" = some (some (.ref f_Number_over)))
    (i_Number_over : PySem.W.isFn K (.ref f_Number_over) = true)
    (l_Number_over : K.lookup f_Number_over = some ⟨oc_Number_over, od_Number_over, .func (PySem.W.fnOf "over" "Number.over" (defArgs s_Number_over) (defBody s_Number_over) (defScope s_Number_over) .none kV_Number_over dc_Number_over pm_Number_over an_Number_over cd_Number_over ct_Number_over), sl_Number_over⟩)
    (c_Number_over : PySem.W.codeIn K cd_Number_over "Number.over" = true)
    (k_Number_over : PySem.W.keepIn K (.ref f_Number_over) = true)
    (a_Number_below : PySem.W.findIn K (.ref C_Number) "below" = some (some (.ref f_Number_below)))
    (i_Number_below : PySem.W.isFn K (.ref f_Number_below) = true)
    (l_Number_below : K.lookup f_Number_below = some ⟨oc_Number_below, od_Number_below, .func (PySem.W.fnOf "below" "Number.below" (defArgs s_Number_below) (defBody s_Number_below) (defScope s_Number_below) .none kV_Number_below dc_Number_below pm_Number_below an_Number_below cd_Number_below ct_Number_below), sl_Number_below⟩)
    (c_Number_below : PySem.W.codeIn K cd_Number_below "Number.below" = true)
    (k_Number_below : PySem.W.keepIn K (.ref f_Number_below) = true)
    (a_Number_size : PySem.W.findIn K (.ref C_Number) "size" = some (some (.ref f_Number_size)))
    (i_Number_size : PySem.W.isFn K (.ref f_Number_size) = true)
    (l_Number_size : K.lookup f_Number_size = some ⟨oc_Number_size, od_Number_size, .func (PySem.W.fnOf "size" "Number.size" (defArgs s_Number_size) (defBody s_Number_size) (defScope s_Number_size) .none kV_Number_size dc_Number_size pm_Number_size an_Number_size cd_Number_size ct_Number_size), sl_Number_size⟩)
    (c_Number_size : PySem.W.codeIn K cd_Number_size "Number.size" = true)
    (k_Number_size : PySem.W.keepIn K (.ref f_Number_size) = true)
    (a_Number_floor : PySem.W.findIn K (.ref C_Number) "floor" = some (some (.ref f_Number_floor)))
    (i_Number_floor : PySem.W.isFn K (.ref f_Number_floor) = true)
    (l_Number_floor : K.lookup f_Number_floor = some ⟨oc_Number_floor, od_Number_floor, .func (PySem.W.fnOf "floor" "Number.floor" (defArgs s_Number_floor) (defBody s_Number_floor) (defScope s_Number_floor) .none kV_Number_floor dc_Number_floor pm_Number_floor an_Number_floor cd_Number_floor ct_Number_floor), sl_Number_floor⟩)
    (c_Number_floor : PySem.W.codeIn K cd_Number_floor "Number.floor" = true)
    (k_Number_floor : PySem.W.keepIn K (.ref f_Number_floor) = true)
    (a_neighbours : PySem.W.nsIn K mainGlobals "neighbours" = some (some (.ref f_neighbours)))
    (l_neighbours : K.lookup f_neighbours = some ⟨oc_neighbours, od_neighbours, .func (PySem.W.fnOf "neighbours" "neighbours" (defArgs s_neighbours) (defBody s_neighbours) (defScope s_neighbours) .none kV_neighbours dc_neighbours pm_neighbours an_neighbours cd_neighbours ct_neighbours), sl_neighbours⟩)
    (c_neighbours : PySem.W.codeIn K cd_neighbours "neighbours" = true)
    (k_neighbours : PySem.W.keepIn K (.ref f_neighbours) = true)
    (a_rounded : PySem.W.nsIn K mainGlobals "rounded" = some (some (.ref f_rounded)))
    (l_rounded : K.lookup f_rounded = some ⟨oc_rounded, od_rounded, .func (PySem.W.fnOf "rounded" "rounded" (defArgs s_rounded) (defBody s_rounded) (defScope s_rounded) .none (.ref Kd_rounded) dc_rounded pm_rounded an_rounded cd_rounded ct_rounded), sl_rounded⟩)
    (c_rounded : PySem.W.codeIn K cd_rounded "rounded" = true)
    (k_rounded : PySem.W.keepIn K (.ref f_rounded) = true)
    (W_rounded : PySem.W.nsIn K Kd_rounded "way" = some (some (.str "half even" tw_rounded)))
    (a_round_paper : PySem.W.nsIn K mainGlobals "round_paper" = some (some (.ref f_round_paper)))
    (l_round_paper : K.lookup f_round_paper = some ⟨oc_round_paper, od_round_paper, .func (PySem.W.fnOf "round_paper" "round_paper" (defArgs s_round_paper) (defBody s_round_paper) (defScope s_round_paper) .none (.ref Kd_round_paper) dc_round_paper pm_round_paper an_round_paper cd_round_paper ct_round_paper), sl_round_paper⟩)
    (c_round_paper : PySem.W.codeIn K cd_round_paper "round_paper" = true)
    (k_round_paper : PySem.W.keepIn K (.ref f_round_paper) = true)
    (W_round_paper : PySem.W.nsIn K Kd_round_paper "way" = some (some (.str "half even" tw_round_paper)))
    (a_place_of : PySem.W.nsIn K mainGlobals "place_of" = some (some (.ref f_place_of)))
    (l_place_of : K.lookup f_place_of = some ⟨oc_place_of, od_place_of, .func (PySem.W.fnOf "place_of" "place_of" (defArgs s_place_of) (defBody s_place_of) (defScope s_place_of) .none kV_place_of dc_place_of pm_place_of an_place_of cd_place_of ct_place_of), sl_place_of⟩)
    (c_place_of : PySem.W.codeIn K cd_place_of "place_of" = true)
    (k_place_of : PySem.W.keepIn K (.ref f_place_of) = true)
    (a_by_up : PySem.W.nsIn K mainGlobals "_by_up" = some (some (.ref f_by_up)))
    (l_by_up : K.lookup f_by_up = some ⟨oc_by_up, od_by_up, .func (PySem.W.fnOf "_by_up" "_by_up" (defArgs s_by_up) (defBody s_by_up) (defScope s_by_up) .none kV_by_up dc_by_up pm_by_up an_by_up cd_by_up ct_by_up), sl_by_up⟩)
    (c_by_up : PySem.W.codeIn K cd_by_up "_by_up" = true)
    (k_by_up : PySem.W.keepIn K (.ref f_by_up) = true)
    (a_by_down : PySem.W.nsIn K mainGlobals "_by_down" = some (some (.ref f_by_down)))
    (l_by_down : K.lookup f_by_down = some ⟨oc_by_down, od_by_down, .func (PySem.W.fnOf "_by_down" "_by_down" (defArgs s_by_down) (defBody s_by_down) (defScope s_by_down) .none kV_by_down dc_by_down pm_by_down an_by_down cd_by_down ct_by_down), sl_by_down⟩)
    (c_by_down : PySem.W.codeIn K cd_by_down "_by_down" = true)
    (k_by_down : PySem.W.keepIn K (.ref f_by_down) = true)
    (a_by_high : PySem.W.nsIn K mainGlobals "_by_high" = some (some (.ref f_by_high)))
    (l_by_high : K.lookup f_by_high = some ⟨oc_by_high, od_by_high, .func (PySem.W.fnOf "_by_high" "_by_high" (defArgs s_by_high) (defBody s_by_high) (defScope s_by_high) .none kV_by_high dc_by_high pm_by_high an_by_high cd_by_high ct_by_high), sl_by_high⟩)
    (c_by_high : PySem.W.codeIn K cd_by_high "_by_high" = true)
    (k_by_high : PySem.W.keepIn K (.ref f_by_high) = true)
    (a_by_low : PySem.W.nsIn K mainGlobals "_by_low" = some (some (.ref f_by_low)))
    (l_by_low : K.lookup f_by_low = some ⟨oc_by_low, od_by_low, .func (PySem.W.fnOf "_by_low" "_by_low" (defArgs s_by_low) (defBody s_by_low) (defScope s_by_low) .none kV_by_low dc_by_low pm_by_low an_by_low cd_by_low ct_by_low), sl_by_low⟩)
    (c_by_low : PySem.W.codeIn K cd_by_low "_by_low" = true)
    (k_by_low : PySem.W.keepIn K (.ref f_by_low) = true)
    (a_by_half_up : PySem.W.nsIn K mainGlobals "_by_half_up" = some (some (.ref f_by_half_up)))
    (l_by_half_up : K.lookup f_by_half_up = some ⟨oc_by_half_up, od_by_half_up, .func (PySem.W.fnOf "_by_half_up" "_by_half_up" (defArgs s_by_half_up) (defBody s_by_half_up) (defScope s_by_half_up) .none kV_by_half_up dc_by_half_up pm_by_half_up an_by_half_up cd_by_half_up ct_by_half_up), sl_by_half_up⟩)
    (c_by_half_up : PySem.W.codeIn K cd_by_half_up "_by_half_up" = true)
    (k_by_half_up : PySem.W.keepIn K (.ref f_by_half_up) = true)
    (a_by_half_down : PySem.W.nsIn K mainGlobals "_by_half_down" = some (some (.ref f_by_half_down)))
    (l_by_half_down : K.lookup f_by_half_down = some ⟨oc_by_half_down, od_by_half_down, .func (PySem.W.fnOf "_by_half_down" "_by_half_down" (defArgs s_by_half_down) (defBody s_by_half_down) (defScope s_by_half_down) .none kV_by_half_down dc_by_half_down pm_by_half_down an_by_half_down cd_by_half_down ct_by_half_down), sl_by_half_down⟩)
    (c_by_half_down : PySem.W.codeIn K cd_by_half_down "_by_half_down" = true)
    (k_by_half_down : PySem.W.keepIn K (.ref f_by_half_down) = true)
    (a_by_half_even : PySem.W.nsIn K mainGlobals "_by_half_even" = some (some (.ref f_by_half_even)))
    (l_by_half_even : K.lookup f_by_half_even = some ⟨oc_by_half_even, od_by_half_even, .func (PySem.W.fnOf "_by_half_even" "_by_half_even" (defArgs s_by_half_even) (defBody s_by_half_even) (defScope s_by_half_even) .none kV_by_half_even dc_by_half_even pm_by_half_even an_by_half_even cd_by_half_even ct_by_half_even), sl_by_half_even⟩)
    (c_by_half_even : PySem.W.codeIn K cd_by_half_even "_by_half_even" = true)
    (k_by_half_even : PySem.W.keepIn K (.ref f_by_half_even) = true)
    (a_by_half_odd : PySem.W.nsIn K mainGlobals "_by_half_odd" = some (some (.ref f_by_half_odd)))
    (l_by_half_odd : K.lookup f_by_half_odd = some ⟨oc_by_half_odd, od_by_half_odd, .func (PySem.W.fnOf "_by_half_odd" "_by_half_odd" (defArgs s_by_half_odd) (defBody s_by_half_odd) (defScope s_by_half_odd) .none kV_by_half_odd dc_by_half_odd pm_by_half_odd an_by_half_odd cd_by_half_odd ct_by_half_odd), sl_by_half_odd⟩)
    (c_by_half_odd : PySem.W.codeIn K cd_by_half_odd "_by_half_odd" = true)
    (k_by_half_odd : PySem.W.keepIn K (.ref f_by_half_odd) = true)
    (a_nearer : PySem.W.nsIn K mainGlobals "_nearer" = some (some (.ref f_nearer)))
    (l_nearer : K.lookup f_nearer = some ⟨oc_nearer, od_nearer, .func (PySem.W.fnOf "_nearer" "_nearer" (defArgs s_nearer) (defBody s_nearer) (defScope s_nearer) .none kV_nearer dc_nearer pm_nearer an_nearer cd_nearer ct_nearer), sl_nearer⟩)
    (c_nearer : PySem.W.codeIn K cd_nearer "_nearer" = true)
    (k_nearer : PySem.W.keepIn K (.ref f_nearer) = true)
    (a_l_deck : PySem.W.nsIn K mainGlobals "_law_deck" = some (some (.ref f_l_deck)))
    (l_l_deck : K.lookup f_l_deck = some ⟨oc_l_deck, od_l_deck, .func (PySem.W.fnOf "_law_deck" "_law_deck" (defArgs s_l_deck) (defBody s_l_deck) (defScope s_l_deck) .none kV_l_deck dc_l_deck pm_l_deck an_l_deck cd_l_deck ct_l_deck), sl_l_deck⟩)
    (c_l_deck : PySem.W.codeIn K cd_l_deck "_law_deck" = true)
    (k_l_deck : PySem.W.keepIn K (.ref f_l_deck) = true)
    (a_l_draw : PySem.W.nsIn K mainGlobals "_law_draw" = some (some (.ref f_l_draw)))
    (l_l_draw : K.lookup f_l_draw = some ⟨oc_l_draw, od_l_draw, .func (PySem.W.fnOf "_law_draw" "_law_draw" (defArgs s_l_draw) (defBody s_l_draw) (defScope s_l_draw) .none kV_l_draw dc_l_draw pm_l_draw an_l_draw cd_l_draw ct_l_draw), sl_l_draw⟩)
    (c_l_draw : PySem.W.codeIn K cd_l_draw "_law_draw" = true)
    (k_l_draw : PySem.W.keepIn K (.ref f_l_draw) = true)
    (a_l_grain : PySem.W.nsIn K mainGlobals "_law_grain" = some (some (.ref f_l_grain)))
    (l_l_grain : K.lookup f_l_grain = some ⟨oc_l_grain, od_l_grain, .func (PySem.W.fnOf "_law_grain" "_law_grain" (defArgs s_l_grain) (defBody s_l_grain) (defScope s_l_grain) .none kV_l_grain dc_l_grain pm_l_grain an_l_grain cd_l_grain ct_l_grain), sl_l_grain⟩)
    (c_l_grain : PySem.W.codeIn K cd_l_grain "_law_grain" = true)
    (k_l_grain : PySem.W.keepIn K (.ref f_l_grain) = true)
    (a_l_near : PySem.W.nsIn K mainGlobals "_law_near" = some (some (.ref f_l_near)))
    (l_l_near : K.lookup f_l_near = some ⟨oc_l_near, od_l_near, .func (PySem.W.fnOf "_law_near" "_law_near" (defArgs s_l_near) (defBody s_l_near) (defScope s_l_near) .none kV_l_near dc_l_near pm_l_near an_l_near cd_l_near ct_l_near), sl_l_near⟩)
    (c_l_near : PySem.W.codeIn K cd_l_near "_law_near" = true)
    (k_l_near : PySem.W.keepIn K (.ref f_l_near) = true)
    (a_l_function : PySem.W.nsIn K mainGlobals "_law_function" = some (some (.ref f_l_function)))
    (l_l_function : K.lookup f_l_function = some ⟨oc_l_function, od_l_function, .func (PySem.W.fnOf "_law_function" "_law_function" (defArgs s_l_function) (defBody s_l_function) (defScope s_l_function) .none kV_l_function dc_l_function pm_l_function an_l_function cd_l_function ct_l_function), sl_l_function⟩)
    (c_l_function : PySem.W.codeIn K cd_l_function "_law_function" = true)
    (k_l_function : PySem.W.keepIn K (.ref f_l_function) = true)
    (a_l_one_right : PySem.W.nsIn K mainGlobals "_law_one_right" = some (some (.ref f_l_one_right)))
    (l_l_one_right : K.lookup f_l_one_right = some ⟨oc_l_one_right, od_l_one_right, .func (PySem.W.fnOf "_law_one_right" "_law_one_right" (defArgs s_l_one_right) (defBody s_l_one_right) (defScope s_l_one_right) .none kV_l_one_right dc_l_one_right pm_l_one_right an_l_one_right cd_l_one_right ct_l_one_right), sl_l_one_right⟩)
    (c_l_one_right : PySem.W.codeIn K cd_l_one_right "_law_one_right" = true)
    (k_l_one_right : PySem.W.keepIn K (.ref f_l_one_right) = true)
    (a_l_order_right : PySem.W.nsIn K mainGlobals "_law_order_right" = some (some (.ref f_l_order_right)))
    (l_l_order_right : K.lookup f_l_order_right = some ⟨oc_l_order_right, od_l_order_right, .func (PySem.W.fnOf "_law_order_right" "_law_order_right" (defArgs s_l_order_right) (defBody s_l_order_right) (defScope s_l_order_right) .none kV_l_order_right dc_l_order_right pm_l_order_right an_l_order_right cd_l_order_right ct_l_order_right), sl_l_order_right⟩)
    (c_l_order_right : PySem.W.codeIn K cd_l_order_right "_law_order_right" = true)
    (k_l_order_right : PySem.W.keepIn K (.ref f_l_order_right) = true)
    (a_law : PySem.W.nsIn K mainGlobals "law" = some (some (.ref f_law)))
    (l_law : K.lookup f_law = some ⟨oc_law, od_law, .func (PySem.W.fnOf "law" "law" (defArgs s_law) (defBody s_law) (defScope s_law) .none kV_law dc_law pm_law an_law cd_law ct_law), sl_law⟩)
    (c_law : PySem.W.codeIn K cd_law "law" = true)
    (k_law : PySem.W.keepIn K (.ref f_law) = true)
    (a_gcd : PySem.W.nsIn K mainGlobals "gcd" = some (some (.builtin "math.gcd")))
    (z_range : PySem.W.nsIn K mainGlobals "range" = some none)
    (z_isinstance : PySem.W.nsIn K mainGlobals "isinstance" = some none)
    (z_str : PySem.W.nsIn K mainGlobals "str" = some none)
    (z_list : PySem.W.nsIn K mainGlobals "list" = some none)
    (z_len : PySem.W.nsIn K mainGlobals "len" = some none)
    (z_abs : PySem.W.nsIn K mainGlobals "abs" = some none)
    (z_max : PySem.W.nsIn K mainGlobals "max" = some none)
    (a_WAYS : PySem.W.nsIn K mainGlobals "WAYS" = some (some (.ref A_WAYS)))
    (l_WAYS : K.lookup A_WAYS = some ⟨.type "tuple", dW, .seq #[.str "up" tW0, .str "down" tW1, .str "high" tW2, .str "low" tW3, .str "half up" tW4, .str "half down" tW5, .str "half even" tW6, .str "half odd" tW7] nW, sW⟩)
    (a_RULES : PySem.W.nsIn K mainGlobals "RULES" = some (some (.ref D_RULES)))
    (l_RULES : K.lookup D_RULES = some ⟨.type "dict", none, .dict es_RULES en_RULES, #[]⟩)
    (k_RULES : PySem.W.KeysLit w.params es_RULES.toList)
    (r_by_up : PySem.W.nsIn K D_RULES "up" = some (some (.ref f_by_up)))
    (r_by_down : PySem.W.nsIn K D_RULES "down" = some (some (.ref f_by_down)))
    (r_by_high : PySem.W.nsIn K D_RULES "high" = some (some (.ref f_by_high)))
    (r_by_low : PySem.W.nsIn K D_RULES "low" = some (some (.ref f_by_low)))
    (r_by_half_up : PySem.W.nsIn K D_RULES "half up" = some (some (.ref f_by_half_up)))
    (r_by_half_down : PySem.W.nsIn K D_RULES "half down" = some (some (.ref f_by_half_down)))
    (r_by_half_even : PySem.W.nsIn K D_RULES "half even" = some (some (.ref f_by_half_even)))
    (r_by_half_odd : PySem.W.nsIn K D_RULES "half odd" = some (some (.ref f_by_half_odd)))
    (hc_M : cd_l_function = .ref cc_M)
    (kc_M : K.lookup cc_M = some ⟨cv_M, cq_M, .fields cu_M, cs_M⟩)
    (kt_M : cu_M[11]? = some (.ref tt_M))
    (kn_M : K.lookup tt_M = none)
    : ∃ (fd : FuncData) (c T : Addr), MakerK K mg "_law_function" c T ∧ (∀ (s : Shared) (v : Value), BindsTo s fd ⟨[v], []⟩ [("_law_script", v)]) ∧ ∀ base : Heap, K.In base → base.Ns mainGlobals mg → LamX.TabB base mg c T → FnG l.prog w K mg base 8 fa fd ["_law_script"] (spLaw K T) := by
  have e := hfa.symm.trans (PySem.W.mg_of X G a_law)
  cases e
  subst hc_M
  have F_Number_init : FunD K "__init__" "Number.__init__" (defArgs s_Number_init) (defBody s_Number_init) (defScope s_Number_init) [V.int 1] [] f_Number_init _ := ⟨⟨_, _, _, _, _, _, _, _, _, _, rfl, l_Number_init, c_Number_init, .inr ⟨by simp, Td_Number_init, _, _, _, rfl, T_Number_init, rfl, .cons ⟨_, rfl⟩ .nil⟩, .inl rfl⟩, k_Number_init⟩
  obtain ⟨b_Number_init2, ds_Number_init1, d_Number_init1, b_Number_init1⟩ := bi_Number_init F_Number_init
  have F_Number_eq := fun_mk (st := s_Number_eq) l_Number_eq c_Number_eq k_Number_eq
  have b_Number_eq := F_Number_eq.binds (ps := ["self", "other"]) fun _ _ _ _ _ _ us hl => match us, hl with | [_, _], _ => rfl
  have F_Number_more := fun_mk (st := s_Number_more) l_Number_more c_Number_more k_Number_more
  have b_Number_more := F_Number_more.binds (ps := ["self", "other"]) fun _ _ _ _ _ _ us hl => match us, hl with | [_, _], _ => rfl
  have F_Number_less := fun_mk (st := s_Number_less) l_Number_less c_Number_less k_Number_less
  have b_Number_less := F_Number_less.binds (ps := ["self", "other"]) fun _ _ _ _ _ _ us hl => match us, hl with | [_, _], _ => rfl
  have F_Number_times := fun_mk (st := s_Number_times) l_Number_times c_Number_times k_Number_times
  have b_Number_times := F_Number_times.binds (ps := ["self", "other"]) fun _ _ _ _ _ _ us hl => match us, hl with | [_, _], _ => rfl
  have F_Number_over := fun_mk (st := s_Number_over) l_Number_over c_Number_over k_Number_over
  have b_Number_over := F_Number_over.binds (ps := ["self", "other"]) fun _ _ _ _ _ _ us hl => match us, hl with | [_, _], _ => rfl
  have F_Number_below := fun_mk (st := s_Number_below) l_Number_below c_Number_below k_Number_below
  have b_Number_below := F_Number_below.binds (ps := ["self", "other"]) fun _ _ _ _ _ _ us hl => match us, hl with | [_, _], _ => rfl
  have F_Number_size := fun_mk (st := s_Number_size) l_Number_size c_Number_size k_Number_size
  have b_Number_size := F_Number_size.binds (ps := ["self"]) fun _ _ _ _ _ _ us hl => match us, hl with | [_], _ => rfl
  have F_Number_floor := fun_mk (st := s_Number_floor) l_Number_floor c_Number_floor k_Number_floor
  have b_Number_floor := F_Number_floor.binds (ps := ["self"]) fun _ _ _ _ _ _ us hl => match us, hl with | [_], _ => rfl
  have F_neighbours := fun_mk (st := s_neighbours) l_neighbours c_neighbours k_neighbours
  have b_neighbours := F_neighbours.binds (ps := ["number", "step"]) fun _ _ _ _ _ _ us hl => match us, hl with | [_, _], _ => rfl
  have F_rounded : FunD K "rounded" "rounded" (defArgs s_rounded) (defBody s_rounded) (defScope s_rounded) [] [(("way" : Str), V.str "half even")] f_rounded _ := ⟨⟨_, _, _, _, _, _, _, _, _, _, rfl, l_rounded, c_rounded, .inl ⟨rfl, rfl⟩, .inr ⟨Kd_rounded, rfl, fun q hq => by cases List.mem_singleton.mp hq; exact ⟨_, W_rounded, ⟨_, rfl⟩⟩⟩⟩, k_rounded⟩
  obtain ⟨kb_rounded, ds_rounded, d_rounded, b_rounded⟩ := bi_rounded F_rounded
  have F_round_paper : FunD K "round_paper" "round_paper" (defArgs s_round_paper) (defBody s_round_paper) (defScope s_round_paper) [] [(("way" : Str), V.str "half even")] f_round_paper _ := ⟨⟨_, _, _, _, _, _, _, _, _, _, rfl, l_round_paper, c_round_paper, .inl ⟨rfl, rfl⟩, .inr ⟨Kd_round_paper, rfl, fun q hq => by cases List.mem_singleton.mp hq; exact ⟨_, W_round_paper, ⟨_, rfl⟩⟩⟩⟩, k_round_paper⟩
  obtain ⟨kb_round_paper, ds_round_paper, d_round_paper, b_round_paper⟩ := bi_round_paper F_round_paper
  have F_place_of := fun_mk (st := s_place_of) l_place_of c_place_of k_place_of
  have b_place_of := F_place_of.binds (ps := ["number", "step"]) fun _ _ _ _ _ _ us hl => match us, hl with | [_, _], _ => rfl
  have F_by_up := fun_mk (st := s_by_up) l_by_up c_by_up k_by_up
  have b_by_up := F_by_up.binds (ps := ["low", "part"]) fun _ _ _ _ _ _ us hl => match us, hl with | [_, _], _ => rfl
  have F_by_down := fun_mk (st := s_by_down) l_by_down c_by_down k_by_down
  have b_by_down := F_by_down.binds (ps := ["low", "part"]) fun _ _ _ _ _ _ us hl => match us, hl with | [_, _], _ => rfl
  have F_by_high := fun_mk (st := s_by_high) l_by_high c_by_high k_by_high
  have b_by_high := F_by_high.binds (ps := ["low", "part"]) fun _ _ _ _ _ _ us hl => match us, hl with | [_, _], _ => rfl
  have F_by_low := fun_mk (st := s_by_low) l_by_low c_by_low k_by_low
  have b_by_low := F_by_low.binds (ps := ["low", "part"]) fun _ _ _ _ _ _ us hl => match us, hl with | [_, _], _ => rfl
  have F_by_half_up := fun_mk (st := s_by_half_up) l_by_half_up c_by_half_up k_by_half_up
  have b_by_half_up := F_by_half_up.binds (ps := ["low", "part"]) fun _ _ _ _ _ _ us hl => match us, hl with | [_, _], _ => rfl
  have F_by_half_down := fun_mk (st := s_by_half_down) l_by_half_down c_by_half_down k_by_half_down
  have b_by_half_down := F_by_half_down.binds (ps := ["low", "part"]) fun _ _ _ _ _ _ us hl => match us, hl with | [_, _], _ => rfl
  have F_by_half_even := fun_mk (st := s_by_half_even) l_by_half_even c_by_half_even k_by_half_even
  have b_by_half_even := F_by_half_even.binds (ps := ["low", "part"]) fun _ _ _ _ _ _ us hl => match us, hl with | [_, _], _ => rfl
  have F_by_half_odd := fun_mk (st := s_by_half_odd) l_by_half_odd c_by_half_odd k_by_half_odd
  have b_by_half_odd := F_by_half_odd.binds (ps := ["low", "part"]) fun _ _ _ _ _ _ us hl => match us, hl with | [_, _], _ => rfl
  have F_nearer := fun_mk (st := s_nearer) l_nearer c_nearer k_nearer
  have b_nearer := F_nearer.binds (ps := ["part", "at_half"]) fun _ _ _ _ _ _ us hl => match us, hl with | [_, _], _ => rfl
  have F_l_deck := fun_mk (st := s_l_deck) l_l_deck c_l_deck k_l_deck
  have b_l_deck := F_l_deck.binds (ps := ["_law_script"]) fun _ _ _ _ _ _ us hl => match us, hl with | [_], _ => rfl
  have F_l_draw := fun_mk (st := s_l_draw) l_l_draw c_l_draw k_l_draw
  have b_l_draw := F_l_draw.binds (ps := ["_law_deck_here", "_law_ways"]) fun _ _ _ _ _ _ us hl => match us, hl with | [_, _], _ => rfl
  have F_l_grain := fun_mk (st := s_l_grain) l_l_grain c_l_grain k_l_grain
  have b_l_grain := F_l_grain.binds (ps := ["_law_deck_here"]) fun _ _ _ _ _ _ us hl => match us, hl with | [_], _ => rfl
  have F_l_near := fun_mk (st := s_l_near) l_l_near c_l_near k_l_near
  have b_l_near := F_l_near.binds (ps := ["_law_deck_here", "_law_grain_here"]) fun _ _ _ _ _ _ us hl => match us, hl with | [_, _], _ => rfl
  have F_l_function := fun_mk (st := s_l_function) l_l_function c_l_function k_l_function
  have b_l_function := F_l_function.binds (ps := ["_law_rule"]) fun _ _ _ _ _ _ us hl => match us, hl with | [_], _ => rfl
  have F_l_one_right := fun_mk (st := s_l_one_right) l_l_one_right c_l_one_right k_l_one_right
  have b_l_one_right := F_l_one_right.binds (ps := ["_law_here", "_law_unit_step", "_law_rule", "_law_more"]) fun _ _ _ _ _ _ us hl => match us, hl with | [_, _, _, _], _ => rfl
  have F_l_order_right := fun_mk (st := s_l_order_right) l_l_order_right c_l_order_right k_l_order_right
  have b_l_order_right := F_l_order_right.binds (ps := ["_law_numbers", "_law_unit_step", "_law_rule"]) fun _ _ _ _ _ _ us hl => match us, hl with | [_, _, _], _ => rfl
  have F_law := fun_mk (st := s_law) l_law c_law k_law
  have b_law := F_law.binds (ps := ["_law_script"]) fun _ _ _ _ _ _ us hl => match us, hl with | [_], _ => rfl
  have t_WAYS : ∀ H : Hp, SqT K H A_WAYS [.str "up", .str "down", .str "high", .str "low", .str "half up", .str "half down", .str "half even", .str "half odd"] := fun H => .inr ⟨_, _, _, l_WAYS, rfl, rfl, by show 8 ≤ sizeLine; decide, .cons ⟨_, rfl⟩ (.cons ⟨_, rfl⟩ (.cons ⟨_, rfl⟩ (.cons ⟨_, rfl⟩ (.cons ⟨_, rfl⟩ (.cons ⟨_, rfl⟩ (.cons ⟨_, rfl⟩ (.cons ⟨_, rfl⟩ .nil)))))))⟩
  exact ⟨_, cc_M, tt_M, ⟨_, _, _, _, _, _, _, PySem.W.mg_of X G a_l_function, l_l_function, rfl, rfl, kc_M, kt_M, kn_M⟩, fun s v => .of_eq rfl, fun base _ _ TB => okG_law (w := w) (K := K) (mg := mg) {
    C_Number := C_Number,
    m_Number := PySem.W.mg_of X G aC_Number,
    c_Number := ⟨pg_Number, hd_Number, po_Number, sa_Number⟩,
    n_Number_top := nf_Number_top,
    n_Number_bottom := nf_Number_bottom,
    ty_Number_c := tc_Number,
    ty_Number_g := tg_Number,
    ty_Number_t := tt_Number,
    ty_Number_m := tm_Number,
    ty_Number_k := kit_self,
    ne_Number := nn_Number,
    f_Number_init := f_Number_init,
    fd_Number_init := _,
    F_Number_init := F_Number_init,
    mk_Number := ⟨mi_Number, a_Number_init, i_Number_init, kc_Number⟩,
    b_Number_init2 := b_Number_init2,
    ds_Number_init1 := ds_Number_init1,
    d_Number_init1 := d_Number_init1,
    b_Number_init1 := b_Number_init1,
    f_Number_eq := f_Number_eq,
    fd_Number_eq := _,
    F_Number_eq := F_Number_eq,
    me_Number_eq := ⟨a_Number_eq, i_Number_eq, k_Number_eq⟩,
    b_Number_eq := b_Number_eq,
    f_Number_more := f_Number_more,
    fd_Number_more := _,
    F_Number_more := F_Number_more,
    me_Number_more := ⟨a_Number_more, i_Number_more, k_Number_more⟩,
    b_Number_more := b_Number_more,
    f_Number_less := f_Number_less,
    fd_Number_less := _,
    F_Number_less := F_Number_less,
    me_Number_less := ⟨a_Number_less, i_Number_less, k_Number_less⟩,
    b_Number_less := b_Number_less,
    f_Number_times := f_Number_times,
    fd_Number_times := _,
    F_Number_times := F_Number_times,
    me_Number_times := ⟨a_Number_times, i_Number_times, k_Number_times⟩,
    b_Number_times := b_Number_times,
    f_Number_over := f_Number_over,
    fd_Number_over := _,
    F_Number_over := F_Number_over,
    me_Number_over := ⟨a_Number_over, i_Number_over, k_Number_over⟩,
    b_Number_over := b_Number_over,
    f_Number_below := f_Number_below,
    fd_Number_below := _,
    F_Number_below := F_Number_below,
    me_Number_below := ⟨a_Number_below, i_Number_below, k_Number_below⟩,
    b_Number_below := b_Number_below,
    f_Number_size := f_Number_size,
    fd_Number_size := _,
    F_Number_size := F_Number_size,
    me_Number_size := ⟨a_Number_size, i_Number_size, k_Number_size⟩,
    b_Number_size := b_Number_size,
    f_Number_floor := f_Number_floor,
    fd_Number_floor := _,
    F_Number_floor := F_Number_floor,
    me_Number_floor := ⟨a_Number_floor, i_Number_floor, k_Number_floor⟩,
    b_Number_floor := b_Number_floor,
    m_neighbours := PySem.W.mg_of X G a_neighbours,
    f_neighbours := f_neighbours,
    fd_neighbours := _,
    F_neighbours := F_neighbours,
    b_neighbours := b_neighbours,
    m_rounded := PySem.W.mg_of X G a_rounded,
    f_rounded := f_rounded,
    fd_rounded := _,
    F_rounded := F_rounded,
    kb_rounded := kb_rounded,
    ds_rounded := ds_rounded,
    d_rounded := d_rounded,
    b_rounded := b_rounded,
    m_round_paper := PySem.W.mg_of X G a_round_paper,
    f_round_paper := f_round_paper,
    fd_round_paper := _,
    F_round_paper := F_round_paper,
    kb_round_paper := kb_round_paper,
    ds_round_paper := ds_round_paper,
    d_round_paper := d_round_paper,
    b_round_paper := b_round_paper,
    m_place_of := PySem.W.mg_of X G a_place_of,
    f_place_of := f_place_of,
    fd_place_of := _,
    F_place_of := F_place_of,
    b_place_of := b_place_of,
    m_by_up := PySem.W.mg_of X G a_by_up,
    f_by_up := f_by_up,
    fd_by_up := _,
    F_by_up := F_by_up,
    b_by_up := b_by_up,
    m_by_down := PySem.W.mg_of X G a_by_down,
    f_by_down := f_by_down,
    fd_by_down := _,
    F_by_down := F_by_down,
    b_by_down := b_by_down,
    m_by_high := PySem.W.mg_of X G a_by_high,
    f_by_high := f_by_high,
    fd_by_high := _,
    F_by_high := F_by_high,
    b_by_high := b_by_high,
    m_by_low := PySem.W.mg_of X G a_by_low,
    f_by_low := f_by_low,
    fd_by_low := _,
    F_by_low := F_by_low,
    b_by_low := b_by_low,
    m_by_half_up := PySem.W.mg_of X G a_by_half_up,
    f_by_half_up := f_by_half_up,
    fd_by_half_up := _,
    F_by_half_up := F_by_half_up,
    b_by_half_up := b_by_half_up,
    m_by_half_down := PySem.W.mg_of X G a_by_half_down,
    f_by_half_down := f_by_half_down,
    fd_by_half_down := _,
    F_by_half_down := F_by_half_down,
    b_by_half_down := b_by_half_down,
    m_by_half_even := PySem.W.mg_of X G a_by_half_even,
    f_by_half_even := f_by_half_even,
    fd_by_half_even := _,
    F_by_half_even := F_by_half_even,
    b_by_half_even := b_by_half_even,
    m_by_half_odd := PySem.W.mg_of X G a_by_half_odd,
    f_by_half_odd := f_by_half_odd,
    fd_by_half_odd := _,
    F_by_half_odd := F_by_half_odd,
    b_by_half_odd := b_by_half_odd,
    m_nearer := PySem.W.mg_of X G a_nearer,
    f_nearer := f_nearer,
    fd_nearer := _,
    F_nearer := F_nearer,
    b_nearer := b_nearer,
    m_l_deck := PySem.W.mg_of X G a_l_deck,
    f_l_deck := f_l_deck,
    fd_l_deck := _,
    F_l_deck := F_l_deck,
    b_l_deck := b_l_deck,
    m_l_draw := PySem.W.mg_of X G a_l_draw,
    f_l_draw := f_l_draw,
    fd_l_draw := _,
    F_l_draw := F_l_draw,
    b_l_draw := b_l_draw,
    m_l_grain := PySem.W.mg_of X G a_l_grain,
    f_l_grain := f_l_grain,
    fd_l_grain := _,
    F_l_grain := F_l_grain,
    b_l_grain := b_l_grain,
    m_l_near := PySem.W.mg_of X G a_l_near,
    f_l_near := f_l_near,
    fd_l_near := _,
    F_l_near := F_l_near,
    b_l_near := b_l_near,
    m_l_function := PySem.W.mg_of X G a_l_function,
    f_l_function := f_l_function,
    fd_l_function := _,
    F_l_function := F_l_function,
    b_l_function := b_l_function,
    m_l_one_right := PySem.W.mg_of X G a_l_one_right,
    f_l_one_right := f_l_one_right,
    fd_l_one_right := _,
    F_l_one_right := F_l_one_right,
    b_l_one_right := b_l_one_right,
    m_l_order_right := PySem.W.mg_of X G a_l_order_right,
    f_l_order_right := f_l_order_right,
    fd_l_order_right := _,
    F_l_order_right := F_l_order_right,
    b_l_order_right := b_l_order_right,
    m_law := PySem.W.mg_of X G a_law,
    f_law := _,
    fd_law := _,
    F_law := F_law,
    b_law := b_law,
    m_gcd := PySem.W.mg_of X G a_gcd,
    n_range := PySem.W.mg_none_of X G z_range,
    n_isinstance := PySem.W.mg_none_of X G z_isinstance,
    n_str := PySem.W.mg_none_of X G z_str,
    n_list := PySem.W.mg_none_of X G z_list,
    n_len := PySem.W.mg_none_of X G z_len,
    n_abs := PySem.W.mg_none_of X G z_abs,
    n_max := PySem.W.mg_none_of X G z_max,
    A_WAYS := A_WAYS,
    m_WAYS := PySem.W.mg_of X G a_WAYS,
    t_WAYS := t_WAYS,
    D_RULES := D_RULES,
    m_RULES := PySem.W.mg_of X G a_RULES,
    es_RULES := es_RULES,
    en_RULES := en_RULES,
    l_RULES := l_RULES,
    k_RULES := k_RULES,
    rule_by_up := r_by_up,
    rule_by_down := r_by_down,
    rule_by_high := r_by_high,
    rule_by_low := r_by_low,
    rule_by_half_up := r_by_half_up,
    rule_by_half_down := r_by_half_down,
    rule_by_half_even := r_by_half_even,
    rule_by_half_odd := r_by_half_odd,
    cc_M := cc_M,
    tt_M := tt_M,
    lk_M := ⟨_, _, _, _, _, _, _, _, _, rfl, l_l_function, c_l_function⟩,
    mk_M := ⟨_, _, _, _, _, _, _, PySem.W.mg_of X G a_l_function, l_l_function, rfl, rfl, kc_M, kt_M, kn_M⟩ } TB⟩
theorem walk {l : PySem.W.OpenLaw} {q : Program} {loose : List Str} {XP : (Str → Option Value) → Heap → Prop} {YP : World → Heap → Prop} {d : DefRec} {K : Params → PySem.W.Frag} (hn : l.most = some 63) (hdf : d.params.defaults = []) (hrec : ((PyProof.Rows.recsOf q).any fun e => e.name == "_law_function") = true)
    (hY : ∀ (w : World) (h : Heap), YP w h → (K w.params).In h)
    (F : ∀ (w : World) (mg : Str → Option Value) (fa : Addr) (h : Heap), (K w.params).In h → h.Ns mainGlobals mg → mg d.name = some (.ref fa) →
      ∃ (fd : FuncData) (c T : Addr), MakerK (K w.params) mg "_law_function" c T ∧ (∀ (s : Shared) (u : Value), BindsTo s fd ⟨[u], []⟩ [("_law_script", u)]) ∧ ∀ base : Heap, (K w.params).In base → base.Ns mainGlobals mg → LamX.TabB base mg c T → FnG l.prog w (K w.params) mg base 8 fa fd ["_law_script"] (spLaw (K w.params) T)) :
    PySem.W.WalkO q loose XP YP l.row.toRowW d [] (fun f vs => PySem.call f vs) :=
  walk_ofT (n := 63) (k := 8) (x := "_law_script") (mk := "_law_function") (sp := fun w _ T => spLaw (K w.params) T) hn (by decide) hdf ⟨rfl, by decide, by decide⟩ hrec hY F (fun _ _ T _ a ns hl hT hS => ⟨a, ns, rfl, hS, hl, hT, fun _ => rfl⟩)
end My
open PySem PySem.W PyProof.Rows in
set_option maxRecDepth 100000 in
set_option maxHeartbeats 0 in
theorem PySem.Challenge.cw_figuretexts_k85_whole_rounding_by_all_wa_holds : PySem.Challenge.rw_figuretexts_k85_whole_rounding_by_all_wa.Holds := by
  w_on; o_law; k_head; (case hw => w_witness2)
  k_fill
  refine My.walk (l := PySem.Challenge.rw_figuretexts_k85_whole_rounding_by_all_wa) rfl rfl (by rfl) (fun w h Y => PySem.W.km_in_of Y) ?F
  case F =>
    intro w mg fa h KX G hmg
    refine' My.all_mk KX G hmg ?aC_Number ?pg_Number ?hd_Number ?po_Number ?sa_Number ?nf_Number_top ?nf_Number_bottom ?tc_Number ?tg_Number ?tt_Number ?tm_Number ?nn_Number ?mi_Number ?kc_Number ?a_Number_init ?i_Number_init ?l_Number_init ?c_Number_init ?k_Number_init ?T_Number_init ?a_Number_eq ?i_Number_eq ?l_Number_eq ?c_Number_eq ?k_Number_eq ?a_Number_more ?i_Number_more ?l_Number_more ?c_Number_more ?k_Number_more ?a_Number_less ?i_Number_less ?l_Number_less ?c_Number_less ?k_Number_less ?a_Number_times ?i_Number_times ?l_Number_times ?c_Number_times ?k_Number_times ?a_Number_over ?i_Number_over ?l_Number_over ?c_Number_over ?k_Number_over ?a_Number_below ?i_Number_below ?l_Number_below ?c_Number_below ?k_Number_below ?a_Number_size ?i_Number_size ?l_Number_size ?c_Number_size ?k_Number_size ?a_Number_floor ?i_Number_floor ?l_Number_floor ?c_Number_floor ?k_Number_floor ?a_neighbours ?l_neighbours ?c_neighbours ?k_neighbours ?a_rounded ?l_rounded ?c_rounded ?k_rounded ?W_rounded ?a_round_paper ?l_round_paper ?c_round_paper ?k_round_paper ?W_round_paper ?a_place_of ?l_place_of ?c_place_of ?k_place_of ?a_by_up ?l_by_up ?c_by_up ?k_by_up ?a_by_down ?l_by_down ?c_by_down ?k_by_down ?a_by_high ?l_by_high ?c_by_high ?k_by_high ?a_by_low ?l_by_low ?c_by_low ?k_by_low ?a_by_half_up ?l_by_half_up ?c_by_half_up ?k_by_half_up ?a_by_half_down ?l_by_half_down ?c_by_half_down ?k_by_half_down ?a_by_half_even ?l_by_half_even ?c_by_half_even ?k_by_half_even ?a_by_half_odd ?l_by_half_odd ?c_by_half_odd ?k_by_half_odd ?a_nearer ?l_nearer ?c_nearer ?k_nearer ?a_l_deck ?l_l_deck ?c_l_deck ?k_l_deck ?a_l_draw ?l_l_draw ?c_l_draw ?k_l_draw ?a_l_grain ?l_l_grain ?c_l_grain ?k_l_grain ?a_l_near ?l_l_near ?c_l_near ?k_l_near ?a_l_function ?l_l_function ?c_l_function ?k_l_function ?a_l_one_right ?l_l_one_right ?c_l_one_right ?k_l_one_right ?a_l_order_right ?l_l_order_right ?c_l_order_right ?k_l_order_right ?a_law ?l_law ?c_law ?k_law ?a_gcd ?z_range ?z_isinstance ?z_str ?z_list ?z_len ?z_abs ?z_max ?a_WAYS ?l_WAYS ?a_RULES ?l_RULES ?k_RULES ?r_by_up ?r_by_down ?r_by_high ?r_by_low ?r_by_half_up ?r_by_half_down ?r_by_half_even ?r_by_half_odd ?hc_M ?kc_M ?kt_M ?kn_M
    (case aC_Number => k_is)
    (case pg_Number => k_is)
    (case hd_Number => k_is)
    (case po_Number => k_is)
    (case sa_Number => k_is)
    (case nf_Number_top => k_is)
    (case nf_Number_bottom => k_is)
    (case tc_Number => k_is)
    (case tg_Number => k_is)
    (case tt_Number => k_is)
    (case tm_Number => k_is)
    (case nn_Number => k_is)
    (case mi_Number => k_is)
    (case kc_Number => k_is)
    (case a_Number_init => k_is)
    (case i_Number_init => k_is)
    (case l_Number_init => k_is)
    (case c_Number_init => k_is)
    (case k_Number_init => k_is)
    (case T_Number_init => k_is)
    (case a_Number_eq => k_is)
    (case i_Number_eq => k_is)
    (case l_Number_eq => k_is)
    (case c_Number_eq => k_is)
    (case k_Number_eq => k_is)
    (case a_Number_more => k_is)
    (case i_Number_more => k_is)
    (case l_Number_more => k_is)
    (case c_Number_more => k_is)
    (case k_Number_more => k_is)
    (case a_Number_less => k_is)
    (case i_Number_less => k_is)
    (case l_Number_less => k_is)
    (case c_Number_less => k_is)
    (case k_Number_less => k_is)
    (case a_Number_times => k_is)
    (case i_Number_times => k_is)
    (case l_Number_times => k_is)
    (case c_Number_times => k_is)
    (case k_Number_times => k_is)
    (case a_Number_over => k_is)
    (case i_Number_over => k_is)
    (case l_Number_over => k_is)
    (case c_Number_over => k_is)
    (case k_Number_over => k_is)
    (case a_Number_below => k_is)
    (case i_Number_below => k_is)
    (case l_Number_below => k_is)
    (case c_Number_below => k_is)
    (case k_Number_below => k_is)
    (case a_Number_size => k_is)
    (case i_Number_size => k_is)
    (case l_Number_size => k_is)
    (case c_Number_size => k_is)
    (case k_Number_size => k_is)
    (case a_Number_floor => k_is)
    (case i_Number_floor => k_is)
    (case l_Number_floor => k_is)
    (case c_Number_floor => k_is)
    (case k_Number_floor => k_is)
    (case a_neighbours => k_is)
    (case l_neighbours => k_is)
    (case c_neighbours => k_is)
    (case k_neighbours => k_is)
    (case a_rounded => k_is)
    (case l_rounded => k_is)
    (case c_rounded => k_is)
    (case k_rounded => k_is)
    (case W_rounded => k_is)
    (case a_round_paper => k_is)
    (case l_round_paper => k_is)
    (case c_round_paper => k_is)
    (case k_round_paper => k_is)
    (case W_round_paper => k_is)
    (case a_place_of => k_is)
    (case l_place_of => k_is)
    (case c_place_of => k_is)
    (case k_place_of => k_is)
    (case a_by_up => k_is)
    (case l_by_up => k_is)
    (case c_by_up => k_is)
    (case k_by_up => k_is)
    (case a_by_down => k_is)
    (case l_by_down => k_is)
    (case c_by_down => k_is)
    (case k_by_down => k_is)
    (case a_by_high => k_is)
    (case l_by_high => k_is)
    (case c_by_high => k_is)
    (case k_by_high => k_is)
    (case a_by_low => k_is)
    (case l_by_low => k_is)
    (case c_by_low => k_is)
    (case k_by_low => k_is)
    (case a_by_half_up => k_is)
    (case l_by_half_up => k_is)
    (case c_by_half_up => k_is)
    (case k_by_half_up => k_is)
    (case a_by_half_down => k_is)
    (case l_by_half_down => k_is)
    (case c_by_half_down => k_is)
    (case k_by_half_down => k_is)
    (case a_by_half_even => k_is)
    (case l_by_half_even => k_is)
    (case c_by_half_even => k_is)
    (case k_by_half_even => k_is)
    (case a_by_half_odd => k_is)
    (case l_by_half_odd => k_is)
    (case c_by_half_odd => k_is)
    (case k_by_half_odd => k_is)
    (case a_nearer => k_is)
    (case l_nearer => k_is)
    (case c_nearer => k_is)
    (case k_nearer => k_is)
    (case a_l_deck => k_is)
    (case l_l_deck => k_is)
    (case c_l_deck => k_is)
    (case k_l_deck => k_is)
    (case a_l_draw => k_is)
    (case l_l_draw => k_is)
    (case c_l_draw => k_is)
    (case k_l_draw => k_is)
    (case a_l_grain => k_is)
    (case l_l_grain => k_is)
    (case c_l_grain => k_is)
    (case k_l_grain => k_is)
    (case a_l_near => k_is)
    (case l_l_near => k_is)
    (case c_l_near => k_is)
    (case k_l_near => k_is)
    (case a_l_function => k_is)
    (case l_l_function => k_is)
    (case c_l_function => k_is)
    (case k_l_function => k_is)
    (case a_l_one_right => k_is)
    (case l_l_one_right => k_is)
    (case c_l_one_right => k_is)
    (case k_l_one_right => k_is)
    (case a_l_order_right => k_is)
    (case l_l_order_right => k_is)
    (case c_l_order_right => k_is)
    (case k_l_order_right => k_is)
    (case a_law => k_is)
    (case l_law => k_is)
    (case c_law => k_is)
    (case k_law => k_is)
    (case a_gcd => k_is)
    (case z_range => k_is)
    (case z_isinstance => k_is)
    (case z_str => k_is)
    (case z_list => k_is)
    (case z_len => k_is)
    (case z_abs => k_is)
    (case z_max => k_is)
    (case a_WAYS => k_is)
    (case l_WAYS => k_is)
    (case a_RULES => k_is)
    (case l_RULES => k_is)
    (case k_RULES => exact ⟨⟨_, _, rfl, rfl⟩, ⟨_, _, rfl, rfl⟩, ⟨_, _, rfl, rfl⟩, ⟨_, _, rfl, rfl⟩, ⟨_, _, rfl, rfl⟩, ⟨_, _, rfl, rfl⟩, ⟨_, _, rfl, rfl⟩, ⟨_, _, rfl, rfl⟩, trivial⟩)
    (case r_by_up => k_is)
    (case r_by_down => k_is)
    (case r_by_high => k_is)
    (case r_by_low => k_is)
    (case r_by_half_up => k_is)
    (case r_by_half_down => k_is)
    (case r_by_half_even => k_is)
    (case r_by_half_odd => k_is)
    (case hc_M => rfl)
    (case kc_M => k_is)
    (case kt_M => rfl)
    (case kn_M => first | kernel_rfl | rfl)
