import PyProof.Rows.All
import Wide.All
import OpenK.AllK
import Wide.FinOn
import HandS.ForMost
import HandS.Wide
import HandS.WideBits
import HandS.Dict
import HandS.OwnEq
import PyProof.SeqRoads2
import HandS.Gcd
import HandS.Defaults
import HandS.CallLocal
import HandS.Style
import HandS.IsInst
import HandS.More
import HandS.TupAny
import HandS.StrMore
import HandS.Codes
import HandS.FStr
import HandS.ForSpec
import HandS.ExcIs
import KE.KExcInit
import HandS.Conv
import HandS.Sort
import PyProof.IsiH_set
import PyProof.FactsAll.object
import PyProof.TableTree
import PyProof.FactsTree
import KE.KIsAll
import PyProof.LongRange
import PyProof.ListRange
import PyProof.EqKinds
import PyProof.Rows.IntBool
import PyProof.Rows.EqBoolInt
import PyProof.Rows.ReprOcc
import HandS.SortRule
import HandS.Zip
import HandS.SortKw
import HandS.SetFor
import KE.GoesMore
import PyProof.Rows.SumAny
import PyProof.Rows.SortKeyStr
import PyProof.NeKinds
import PyProof.ReprLen
import PySem.Challenge.RW_figuretexts_k66_sum_papers_spoilt

set_option Elab.async false
set_option linter.all false
set_option maxRecDepth 100000
set_option maxHeartbeats 4000000

namespace My
/-! numbers as Rat -/
def cdiv (t b : Int) : Int := if b < 0 then -((Nat.gcd t.natAbs b.natAbs : Nat) : Int) else ((Nat.gcd t.natAbs b.natAbs : Nat) : Int)
theorem gcd_pos {t b : Int} (h : b ≠ 0) : 0 < Nat.gcd t.natAbs b.natAbs := Nat.gcd_pos_of_pos_right _ (by omega)
theorem num_of {t b : Int} (h : b ≠ 0) : t.fdiv (cdiv t b) = (Rat.divInt t b).num := by
  have g := gcd_pos (t := t) h
  have d1 : ((Nat.gcd t.natAbs b.natAbs : Nat) : Int) ∣ t := Int.dvd_trans (Int.natCast_dvd_natCast.mpr (Nat.gcd_dvd_left _ _)) (Int.natAbs_dvd.mpr (Int.dvd_refl _))
  rw [Rat.num_divInt]
  have e : ((Int.gcd b t : Nat) : Int) = ((Nat.gcd t.natAbs b.natAbs : Nat) : Int) := by
    rw [Int.gcd_comm]; rfl
  rw [e]
  unfold cdiv
  obtain ⟨k, hk⟩ := d1
  have gn : ((Nat.gcd t.natAbs b.natAbs : Nat) : Int) ≠ 0 := by omega
  generalize ((Nat.gcd t.natAbs b.natAbs : Nat) : Int) = G at *
  subst hk
  by_cases hb : b < 0
  · rw [if_pos hb, Int.sign_eq_neg_one_of_neg hb]
    rw [show G * k = (-G) * (-k) by rw [Int.neg_mul_neg], Int.mul_fdiv_cancel_left _ (by omega)]
    rw [show -1 * (-G * -k) = G * (-k) by rw [Int.neg_mul_neg]; rw [Int.neg_one_mul, Int.mul_neg], Int.mul_ediv_cancel_left _ gn]
  · have hb' : 0 < b := by omega
    rw [if_neg hb, Int.sign_eq_one_of_pos hb', Int.one_mul, Int.mul_fdiv_cancel_left _ gn, Int.mul_ediv_cancel_left _ gn]
theorem den_of {t b : Int} (h : b ≠ 0) : b.fdiv (cdiv t b) = ((Rat.divInt t b).den : Int) := by
  have g := gcd_pos (t := t) h
  have d1 : ((Nat.gcd t.natAbs b.natAbs : Nat) : Int) ∣ b := Int.dvd_trans (Int.natCast_dvd_natCast.mpr (Nat.gcd_dvd_right _ _)) (Int.natAbs_dvd.mpr (Int.dvd_refl _))
  rw [Rat.den_divInt, if_neg h]
  have e : (Int.gcd b t : Nat) = (Nat.gcd t.natAbs b.natAbs : Nat) := by
    rw [Int.gcd_comm]; rfl
  rw [e, Int.natCast_ediv]
  unfold cdiv
  obtain ⟨k, hk⟩ := d1
  have gn : ((Nat.gcd t.natAbs b.natAbs : Nat) : Int) ≠ 0 := by omega
  have gp : 0 < ((Nat.gcd t.natAbs b.natAbs : Nat) : Int) := by omega
  generalize hG : ((Nat.gcd t.natAbs b.natAbs : Nat) : Int) = G at *
  by_cases hb : b < 0
  · rw [if_pos hb, show ((b.natAbs : Nat) : Int) = -b by omega]
    rw [hk, show G * k = (-G) * (-k) by rw [Int.neg_mul_neg], Int.mul_fdiv_cancel_left _ (by omega)]
    rw [show -(-G * -k) = G * (-k) by rw [Int.neg_mul_neg, Int.mul_neg], Int.mul_ediv_cancel_left _ gn]
  · rw [if_neg hb, show ((b.natAbs : Nat) : Int) = b by omega, hk, Int.mul_fdiv_cancel_left _ gn, Int.mul_ediv_cancel_left _ gn]

/-- top and bottom below 2 ^ n -/
def Bd (n : Nat) (q : Rat) : Prop := q.num.natAbs < 2 ^ n ∧ q.den < 2 ^ n
theorem Bd.mono {m n : Nat} {q : Rat} (h : Bd m q) (l : m ≤ n) : Bd n q :=
  ⟨Nat.lt_of_lt_of_le h.1 (Nat.pow_le_pow_right (by decide) l), Nat.lt_of_lt_of_le h.2 (Nat.pow_le_pow_right (by decide) l)⟩
theorem num_le (t b : Int) : (Rat.divInt t b).num.natAbs ≤ t.natAbs := by
  rw [Rat.num_divInt]
  refine Nat.le_trans (Int.natAbs_ediv_le_natAbs _ _) ?_
  rw [Int.natAbs_mul]
  rcases Int.lt_trichotomy b 0 with h | h | h
  · rw [Int.sign_eq_neg_one_of_neg h]; simp
  · subst h; simp
  · rw [Int.sign_eq_one_of_pos h]; simp
theorem den_le {t b : Int} (h : b ≠ 0) : (Rat.divInt t b).den ≤ b.natAbs := by
  rw [Rat.den_divInt, if_neg h]
  exact Nat.div_le_self _ _
theorem Bd.of {n : Nat} {t b : Int} (h : b ≠ 0) (ht : t.natAbs < 2 ^ n) (hb : b.natAbs < 2 ^ n) : Bd n (Rat.divInt t b) :=
  ⟨Nat.lt_of_le_of_lt (num_le t b) ht, Nat.lt_of_le_of_lt (den_le h) hb⟩
theorem den_ne (q : Rat) : ((q.den : Nat) : Int) ≠ 0 := by have := q.den_pos; omega
theorem sub_eq (x y : Rat) : Rat.divInt (x.num * (y.den : Int) - y.num * (x.den : Int)) ((x.den : Int) * (y.den : Int)) = x - y := by
  rw [Rat.sub_def', ← Int.natCast_mul, Rat.divInt_ofNat]
theorem add_eq (x y : Rat) : Rat.divInt (x.num * (y.den : Int) + y.num * (x.den : Int)) ((x.den : Int) * (y.den : Int)) = x + y := by
  rw [Rat.add_def', ← Int.natCast_mul, Rat.divInt_ofNat]
theorem mul_eq (x y : Rat) : Rat.divInt (x.num * y.num) ((x.den : Int) * (y.den : Int)) = x * y := by
  rw [Rat.mul_def', ← Int.natCast_mul, Rat.divInt_ofNat]
theorem div_eq (x y : Rat) : Rat.divInt (x.num * (y.den : Int)) ((x.den : Int) * y.num) = x / y := by
  rw [Rat.div_def, Rat.inv_def, ← Rat.divInt_mul_divInt, Rat.num_divInt_den]
theorem num_ne {y : Rat} (h : y ≠ 0) : y.num ≠ 0 := fun e => h (Rat.num_eq_zero.mp e)
theorem floor_eq (x : Rat) : x.num.fdiv (x.den : Int) = x.floor := by
  rw [Rat.floor_def, Int.fdiv_eq_ediv_of_nonneg _ (by omega)]
theorem natAbs_mul_lt {a b : Int} {m n k : Nat} (ha : a.natAbs < 2 ^ m) (hb : b.natAbs < 2 ^ n) (h : m + n ≤ k) : (a * b).natAbs < 2 ^ k := by
  rw [Int.natAbs_mul]
  exact Nat.lt_of_lt_of_le (Nat.mul_lt_mul'' ha hb) (by rw [← Nat.pow_add]; exact Nat.pow_le_pow_right (by decide) h)
theorem natAbs_sub_lt {a b : Int} {k : Nat} (ha : a.natAbs < 2 ^ k) (hb : b.natAbs < 2 ^ k) : (a - b).natAbs < 2 ^ (k + 1) := by
  rw [Nat.pow_succ]; omega
theorem natAbs_add_lt {a b : Int} {k : Nat} (ha : a.natAbs < 2 ^ k) (hb : b.natAbs < 2 ^ k) : (a + b).natAbs < 2 ^ (k + 1) := by
  rw [Nat.pow_succ]; omega
theorem Bd.sub {m n : Nat} {x y : Rat} (hx : Bd m x) (hy : Bd n y) : Bd (m + n + 1) (x - y) := by
  rw [← sub_eq]
  refine Bd.of (Int.mul_ne_zero (den_ne x) (den_ne y)) ?_ ?_
  · exact natAbs_sub_lt (natAbs_mul_lt (m := m) (n := n) hx.1 (by have := hy.2; omega) (Nat.le_refl _)) (natAbs_mul_lt (m := n) (n := m) hy.1 (by have := hx.2; omega) (by omega))
  · exact natAbs_mul_lt (m := m) (n := n) (by have := hx.2; omega) (by have := hy.2; omega) (by omega)
theorem Bd.mul {m n : Nat} {x y : Rat} (hx : Bd m x) (hy : Bd n y) : Bd (m + n) (x * y) := by
  rw [← mul_eq]
  exact Bd.of (Int.mul_ne_zero (den_ne x) (den_ne y)) (natAbs_mul_lt hx.1 hy.1 (Nat.le_refl _)) (natAbs_mul_lt (m := m) (n := n) (by have := hx.2; omega) (by have := hy.2; omega) (by omega))
theorem Bd.div {m n : Nat} {x y : Rat} (hx : Bd m x) (hy : Bd n y) (h : y ≠ 0) : Bd (m + n) (x / y) := by
  rw [← div_eq]
  exact Bd.of (Int.mul_ne_zero (den_ne x) (num_ne h)) (natAbs_mul_lt (m := m) (n := n) hx.1 (by have := hy.2; omega) (Nat.le_refl _)) (natAbs_mul_lt (m := m) (n := n) (by have := hx.2; omega) hy.1 (by omega))
theorem Bd.int {n : Nat} {i : Int} (h : i.natAbs < 2 ^ n) (h1 : 1 ≤ n) : Bd n (i : Rat) := ⟨h, by
  show 1 < 2 ^ n
  exact Nat.lt_of_lt_of_le (by decide) (Nat.pow_le_pow_right (by decide) h1)⟩
theorem floor_bd {n : Nat} {x : Rat} (h : Bd n x) : x.floor.natAbs < 2 ^ n := by
  rw [Rat.floor_def]
  exact Nat.lt_of_le_of_lt (Int.natAbs_ediv_le_natAbs _ _) h.1
theorem divInt_one (i : Int) : Rat.divInt i 1 = (i : Rat) := by
  have := Rat.divInt_ofNat i 1
  rw [show ((1 : Nat) : Int) = 1 from rfl] at this
  rw [this, Rat.mkRat_eq_div]; simp
  grind

/-! the ways -/
inductive Way where
  | up | down | high | low | hup | hdown | heven | hodd
def nearerB (part : Rat) (a : Bool) : Bool := if 2 * part.num = (part.den : Int) then a else decide ((part.den : Int) < 2 * part.num)
def ruleB : Way → Int → Rat → Bool
  | .up, l, _ => decide (0 ≤ l)
  | .down, l, _ => decide (l < 0)
  | .high, _, _ => true
  | .low, _, _ => false
  | .hup, l, p => nearerB p (decide (0 ≤ l))
  | .hdown, l, p => nearerB p (decide (l < 0))
  | .heven, l, p => nearerB p (decide (l % 2 = 1))
  | .hodd, l, p => nearerB p (decide (l % 2 = 0))
def partQ (n : Rat) : Rat := n - (n.floor : Rat)
def highQ (n : Rat) : Int := if (partQ n).num = 0 then n.floor else n.floor + 1
def takenQ (w : Way) (n : Rat) : Int := if (partQ n).num = 0 then n.floor else if ruleB w n.floor (partQ n) = true then n.floor + 1 else n.floor
theorem floor_add {c : Int} {f : Rat} (h0 : 0 ≤ f) (h1 : f < 1) : ((c : Rat) + f).floor = c := by
  have a : c ≤ ((c : Rat) + f).floor := Rat.le_floor_iff.mpr (by grind)
  have b : ((c : Rat) + f).floor < c + 1 := Rat.floor_lt_iff.mpr (by rw [Rat.intCast_add]; grind)
  omega
theorem part_add {c : Int} {f : Rat} (h0 : 0 ≤ f) (h1 : f < 1) : partQ ((c : Rat) + f) = f := by
  unfold partQ
  rw [floor_add h0 h1]
  grind
theorem taken_add {w : Way} {c : Int} {f : Rat} (h0 : 0 < f) (h1 : f < 1) : takenQ w ((c : Rat) + f) = if ruleB w c f = true then c + 1 else c := by
  unfold takenQ
  rw [part_add (Rat.le_of_lt h0) h1, floor_add (Rat.le_of_lt h0) h1, if_neg (num_ne (by grind))]
/-- a number of whole and part steps -/
theorem steps_eq {a b c p0 p1 : Int} (ha : a ≠ 0) (hb : b ≠ 0) (h1 : p1 ≠ 0) : Rat.divInt (a * (c * p1 + p0)) (b * p1) / Rat.divInt a b = (c : Rat) + Rat.divInt p0 p1 := by
  simp only [Rat.divInt_eq_div, Rat.intCast_mul, Rat.intCast_add]
  have ha' : (a : Rat) ≠ 0 := by simpa using ha
  have hb' : (b : Rat) ≠ 0 := by simpa using hb
  have h1' : (p1 : Rat) ≠ 0 := by simpa using h1
  grind
end My

namespace My
open PySem L2
/-! readings, one head at a time -/
section
variable {σ : L2.St} {H : Hp} {Q : VK} {QB : Bool → Hp → Prop} {QA : List V → Hp → Prop} {QS : L2.St → Hp → Prop} {v x y : V} {ta tb te tc : TE} {tr : TA} {t u : TS} {c d : TT} {g : TG} {i : Nat} {K : PySem.W.Frag} {b : Bool}
  {nx : L2.St → Hp → Prop} {rt : VK} {bk ct : L2.St → Hp → Prop}
theorem r_var (q : ∃ v, σ[i]? = some (some v) ∧ Q v H) : tVar i σ H Q := q
theorem r_c (q : Q v H) : tC v σ H Q := q
theorem r_op {r : R2} (q : ta σ H fun x H1 => tb σ H1 fun y H2 => r x y H2 Q) : tOp r ta tb σ H Q := q
theorem r_un {r : V → Hp → VK → Prop} (q : ta σ H fun x H1 => r x H1 Q) : tUn r ta σ H Q := q
theorem r_U {f : Int → V} {i : Int} (q : Q (f i) H) : rU f (.int i) H Q := ⟨i, rfl, q⟩
theorem r_I0 {f : Int → Int → V} {i j : Int} (q : Q (f i j) H) : rI0 f (.int i) (.int j) H Q := ⟨i, j, rfl, rfl, q⟩
theorem r_I {C : Int → Int → Prop} {f : Int → Int → V} {i j : Int} (h : C i j) (q : Q (f i j) H) : rI C f (.int i) (.int j) H Q := ⟨i, j, rfl, rfl, h, q⟩
theorem r_eq (h : scal x y = true) (q : Q (.bl (decide (x = y))) H) : rEq x y H Q := ⟨h, q⟩
theorem r_ne (h : scal x y = true) (q : Q (.bl (!decide (x = y))) H) : rNe x y H Q := ⟨h, q⟩
theorem r_eqI {i j : Int} (q : Q (.bl (decide (i = j))) H) : rEq (.int i) (.int j) H Q := ⟨rfl, by
  have e : decide (V.int i = V.int j) = decide (i = j) := by simp
  rw [e]; exact q⟩
theorem r_neI {i j : Int} (q : Q (.bl (!decide (i = j))) H) : rNe (.int i) (.int j) H Q := ⟨rfl, by
  have e : decide (V.int i = V.int j) = decide (i = j) := by simp
  rw [e]; exact q⟩
theorem r_eqS {i j : Str} (q : Q (.bl (decide (i = j))) H) : rEq (.str i) (.str j) H Q := ⟨rfl, by
  have e : decide (V.str i = V.str j) = decide (i = j) := by simp
  rw [e]; exact q⟩
theorem r_eqB {i j : Bool} (q : Q (.bl (decide (i = j))) H) : rEq (.bl i) (.bl j) H Q := ⟨rfl, by
  have e : decide (V.bl i = V.bl j) = decide (i = j) := by simp
  rw [e]; exact q⟩
theorem r_test (q : te σ H fun x H' => ∃ k, x = .bl k ∧ QB k H') : tTest te σ H QB := q
theorem r_B (q : te σ H fun x H' => ∃ k, x = .bl k ∧ QB k H') : tB te σ H QB := q
theorem r_k {P : Bool → Prop} (q : P b) : ∃ k, V.bl b = .bl k ∧ P k := ⟨b, rfl, q⟩
theorem r_and (q : c σ H fun b H1 => if b = true then d σ H1 QB else QB false H1) : tAnd c d σ H QB := q
theorem r_or (q : c σ H fun b H1 => if b = true then QB true H1 else d σ H1 QB) : tOr c d σ H QB := q
theorem r_not (q : c σ H fun b H1 => QB (!b) H1) : tNot c σ H QB := q
theorem r_andV (q : ta σ H fun x H1 => ∃ c, x = .bl c ∧ if c = true then tb σ H1 Q else Q (.bl false) H1) : tAndV ta tb σ H Q := q
theorem r_orV (q : ta σ H fun x H1 => ∃ c, x = .bl c ∧ if c = true then Q (.bl true) H1 else tb σ H1 Q) : tOrV ta tb σ H Q := q
theorem r_notV (q : ta σ H fun x H1 => ∃ c, x = .bl c ∧ Q (.bl (!c)) H1) : tNotV ta σ H Q := q
theorem r_if (q : c σ H fun b H1 => if b = true then ta σ H1 Q else tb σ H1 Q) : tIf c ta tb σ H Q := q
theorem r_seq (q : t ⟨u ⟨nx, rt, bk, ct⟩, rt, bk, ct⟩ σ H) : tSeq t u ⟨nx, rt, bk, ct⟩ σ H := q
theorem r_asg (q : te σ H fun x H1 => g x σ H1 nx) : tAsg te g ⟨nx, rt, bk, ct⟩ σ H := q
theorem r_name (q : QS (σ.set i (some v)) H) : gName i v σ H QS := q
theorem r_ifs (q : c σ H fun b H1 => if b = true then t ⟨nx, rt, bk, ct⟩ σ H1 else u ⟨nx, rt, bk, ct⟩ σ H1) : tIfS c t u ⟨nx, rt, bk, ct⟩ σ H := q
theorem r_ret (q : te σ H rt) : tRet te ⟨nx, rt, bk, ct⟩ σ H := q
theorem r_next (q : nx σ H) : tNext ⟨nx, rt, bk, ct⟩ σ H := q
theorem r_drop (q : te σ H fun _ H1 => nx σ H1) : tDrop te ⟨nx, rt, bk, ct⟩ σ H := q
theorem r_cons (q : te σ H fun x H1 => tr σ H1 fun xs H2 => QA (x :: xs) H2) : tCons te tr σ H QA := q
theorem r_nil (q : QA [] H) : tNil σ H QA := q
theorem r_tup (q : tr σ H fun xs H1 => xs.length ≤ sizeLine ∧ ∀ p, H1 p = none → Q (.ref p) (upd H1 p (.tup xs))) : tTup tr σ H Q := q
theorem r_lst (q : tr σ H fun xs H1 => xs.length ≤ sizeLine ∧ ∀ p, H1 p = none → Q (.ref p) (upd H1 p (.lst xs))) : tLst tr σ H Q := q
theorem r_new {n : Nat} {P : Prop} (h : n ≤ 1000) (q : P) : n ≤ sizeLine ∧ P := ⟨Nat.le_trans h (by decide), q⟩
theorem r_fldT {f : Str} (q : ta σ H fun x H1 => ∃ a C dx fs v, x = .ref a ∧ H1 a = some (.ins C dx fs) ∧ Cls K C ∧ NoAttr K C f ∧ fs.lookup f = some v ∧ Q v H1) : tFld K ta f σ H Q := q
theorem r_fld {f : Str} {p C dx : Addr} {fs : List (Str × V)} (h : H p = some (.ins C dx fs)) (k : Cls K C) (n : NoAttr K C f) (l : fs.lookup f = some v) {P : V → Prop} (q : P v) :
    ∃ a C dx fs v, V.ref p = .ref a ∧ H a = some (.ins C dx fs) ∧ Cls K C ∧ NoAttr K C f ∧ fs.lookup f = some v ∧ P v := ⟨p, C, dx, fs, v, rfl, h, k, n, l, q⟩
theorem r_sFld {f : Str} (q : te σ H fun y H1 => ta σ H1 fun x H2 => ∃ a C dx fs, x = .ref a ∧ H2 a = some (.ins C dx fs) ∧ Cls K C ∧ NoAttr K C f ∧ fs.length < 1000 ∧ nx σ (upd H2 a (.ins C dx (putF f y fs)))) : sFld K ta te f ⟨nx, rt, bk, ct⟩ σ H := q
theorem r_call {sp : Sp} {dvs : List V} {E : XK} (q : tr σ H fun vs H1 => sp (vs ++ dvs) H1 Q E) : tCall sp dvs E tr σ H Q := q
theorem r_CB {r : List V → Hp → VK → Prop} (q : tr σ H fun vs H1 => r vs H1 Q) : tCB r tr σ H Q := q
theorem r_meth {C : Addr} {m : Str} {sp : Sp} {dvs : List V} {E : XK} (q : ta σ H fun x H1 => ∃ a dx fs, x = .ref a ∧ H1 a = some (.ins C dx fs) ∧ fs.lookup m = none ∧ tr σ H1 fun vs H2 => sp (x :: (vs ++ dvs)) H2 Q E) : tMeth C m sp dvs E ta tr σ H Q := q
theorem r_meth1 {C : Addr} {m : Str} {P : Prop} {p dx : Addr} {fs : List (Str × V)} (h : H p = some (.ins C dx fs)) (l : fs.lookup m = none) (q : P) : ∃ a dx fs, V.ref p = .ref a ∧ H a = some (.ins C dx fs) ∧ fs.lookup m = none ∧ P := ⟨p, dx, fs, rfl, h, l, q⟩
theorem r_make {C : Addr} {sp : Sp} {dvs : List V} {E : XK} (q : tr σ H fun vs H1 => ∀ x dx, H1 x = none → H1 dx = none → dx ≠ x → sp (.ref x :: (vs ++ dvs)) (upd (upd H1 dx (.own x)) x (.ins C dx [])) (fun v H2 => v = .non ∧ Q (.ref x) H2) E) : tMake C sp dvs E tr σ H Q := q
theorem r_callN {n m : Nat} {sp : Sp} {gV : List V → List V → List V} {E : XK} {tk : TA} (q : tr σ H fun vs H1 => tk σ H1 fun zs H2 => vs.length = n ∧ zs.length = m ∧ sp (gV vs zs) H2 Q E) : tCallN n m sp gV E tr tk σ H Q := q
theorem r_ixT {p : Addr} {xs : List V} {i : Int} (h : H p = some (.tup xs)) (a : atI xs i = some v) (q : Q v H) : rIxT K (.ref p) (.int i) H Q := ⟨p, xs, i, v, rfl, rfl, SqT.of h, a, q⟩
theorem r_ixL {p : Addr} {xs : List V} {i : Int} (h : H p = some (.lst xs)) (a : atI xs i = some v) (q : Q v H) : rIxL K (.ref p) (.int i) H Q := ⟨p, xs, i, v, rfl, rfl, SqL.of h, a, q⟩
theorem r_isi {vs : List V} (q : rIsi K vs H Q) : rIsi K vs H Q := q
theorem r_ite {A B : Prop} {k : Bool} (h1 : k = true → A) (h2 : k = false → B) : if k = true then A else B := by
  cases k with
  | true => exact h1 rfl
  | false => exact h2 rfl
theorem r_iteT {A B : Prop} {k : Bool} (h : k = true) (q : A) : if k = true then A else B := by
  rw [if_pos h]; exact q
theorem r_iteF {A B : Prop} {k : Bool} (h : k = false) (q : B) : if k = true then A else B := by
  subst h; exact iteF q
end
/-! ### // by any number but nought -/
def CDivA (_ j : Int) : Prop := j ≠ 0 ∧ j.natAbs.log2 < 9000
theorem op_fdivA {X : Cx} : OpR X (binaryOp .FloorDiv) (rI CDivA fun i j => .int (i.fdiv j)) := opI fun i j _ _ _ _ _ hc q => PyProof.Rows.floordiv_int hc.1 q (.inl (PyProof.noPylong_of_log2 hc.2))
theorem cdivA {i j : Int} {b : Nat} (h : j ≠ 0) (hb : j.natAbs < 2 ^ b) (h0 : 0 < b) (h9 : b ≤ 9000) : CDivA i j := ⟨h, Nat.lt_of_lt_of_le (PySem.Flt.log2_lt_of h0 hb) h9⟩
/-! ### heaps but for two places -/
def Off (d c : Addr) (H H' : Hp) : Prop := ∀ b o, b ≠ d → b ≠ c → H b = some o → H' b = some o
theorem Off.refl (d c : Addr) (H : Hp) : Off d c H H := fun _ _ _ _ h => h
theorem Off.trans {d c : Addr} {H H1 H2 : Hp} (a : Off d c H H1) (b : Off d c H1 H2) : Off d c H H2 := fun x o h1 h2 h => b x o h1 h2 (a x o h1 h2 h)
theorem Off.of {d c : Addr} {H H' : Hp} (a : Same H H') : Off d c H H' := fun x o _ _ h => a x o h
theorem Same.new {H : Hp} {p : Addr} {o : HO} (h : H p = none) : Same H (upd H p o) := fun b u e => by
  rw [upd_ne (ne_of_none e h)]
  exact e
/-! ### more heads -/
section
variable {σ : L2.St} {H : Hp} {Q : VK} {QA : List V → Hp → Prop} {QS : L2.St → Hp → Prop} {QO : Option Int → Hp → Prop} {v x y : V} {te ta to ti : TE} {tr : TA} {tl th : TO} {K : PySem.W.Frag} {nx : L2.St → Hp → Prop} {rt : VK} {bk ct : L2.St → Hp → Prop}
theorem r_gsub {t : TSet} (q : to σ H fun o H1 => ti σ H1 fun i H2 => t o i v H2 fun H3 => QS σ H3) : gSub to ti t v σ H QS := q
theorem r_setL {p : Addr} {xs : List V} {k : Int} {j : Nat} {R : Hp → Prop} (h : H p = some (.lst xs)) (e : ixN xs.length k = some j) (q : R (upd H p (.lst (xs.set j v)))) : rSetL (.ref p) (.int k) v H R := ⟨p, xs, k, j, rfl, rfl, h, e, q⟩
theorem r_sl {r : V → Option Int → Option Int → Hp → VK → Prop} (q : te σ H fun x H1 => tl σ H1 fun l H2 => th σ H2 fun u H3 => r x l u H3 Q) : tSl r te tl th σ H Q := q
theorem r_noPart (q : QO none H) : tNoPart σ H QO := q
theorem r_part (q : te σ H fun x H1 => ∃ i, x = .int i ∧ QO (some i) H1) : tPart te σ H QO := q
theorem r_ki {P : Int → Prop} {i : Int} (q : P i) : ∃ k, V.int i = .int k ∧ P k := ⟨i, rfl, q⟩
theorem r_bm0 {T : String} {r : V → List V → Hp → VK → Prop} (q : te σ H fun x H1 => tyV K T x H1 ∧ r x [] H1 Q) : tBM0 K T r te σ H Q := q
theorem r_bm {T : String} {r : V → List V → Hp → VK → Prop} (q : te σ H fun x H1 => tyV K T x H1 ∧ tr σ H1 fun xs H2 => r x xs H2 Q) : tBM K T r te tr σ H Q := q
theorem r_rev (q : te σ H fun x H1 => ∃ a xs, x = .ref a ∧ SqL K H1 a xs ∧ ∀ p, H1 p = none → Q (.ref p) (upd H1 p (.lst xs.reverse))) : tRevL K te σ H Q := q
theorem ty_list {p : Addr} {xs : List V} (h : H p = some (.lst xs)) : tyV K "list" (.ref p) H := .inl ⟨rfl, _, SqL.of h⟩
theorem r_pop {p : Addr} {xs : List V} {y : V} (h : H p = some (.lst (xs ++ [y]))) (q : Q y (upd H p (.lst xs))) : rPop (.ref p) [] H Q := by
  refine ⟨p, xs ++ [y], y, rfl, rfl, h, by simp, ?_⟩
  rw [List.dropLast_concat]
  exact q
theorem r_append {p : Addr} {xs : List V} (h : H p = some (.lst xs)) (l : xs.length ≤ 1000) (q : Q .non (upd H p (.lst (xs ++ [y])))) : rAppend (.ref p) [y] H Q := ⟨p, xs, y, rfl, rfl, h, Nat.lt_of_le_of_lt l (by decide), q⟩
end
theorem dp_ints {K : PySem.W.Frag} {H : Hp} : ∀ xs : List Int, DpAll K H (xs.map V.int) (xs.map PyData.int)
  | [] => .nil
  | x :: xs => .cons (.int x) (dp_ints xs)
theorem lay_ints : ∀ xs : List Int, PyData.canLayAll0 (xs.map PyData.int) = true ∧ PyData.depthAll (xs.map PyData.int) = 0
  | [] => ⟨rfl, rfl⟩
  | x :: xs => by
    obtain ⟨a, b⟩ := lay_ints xs
    constructor
    · show (PyData.canLay0 (.int x) && PyData.canLayAll0 (xs.map PyData.int)) = true
      rw [a]; rfl
    · show max (PyData.depth (.int x)) (PyData.depthAll (xs.map PyData.int)) = 0
      rw [b]; rfl
theorem shaped_ints (xs : List Int) : SeqAt.shaped (.list (xs.map PyData.int)) = true := by
  obtain ⟨a, b⟩ := lay_ints xs
  have a' : PyData.canLay0 (.list (xs.map PyData.int)) = true := by rw [PyData.canLay0]; exact a
  have b' : PyData.depth (.list (xs.map PyData.int)) = 1 := by rw [PyData.depth, b]
  unfold SeqAt.shaped
  rw [a', b']; rfl
theorem eqv_ints : ∀ xs ys : List Int, PyData.eqvAll (xs.map PyData.int) (ys.map PyData.int) = decide (xs = ys)
  | [], [] => rfl
  | [], _ :: _ => by simp [PyData.eqvAll]
  | _ :: _, [] => by simp [PyData.eqvAll]
  | x :: xs, y :: ys => by
    show (PyData.eqv (.int x) (.int y) && PyData.eqvAll (xs.map PyData.int) (ys.map PyData.int)) = _
    rw [eqv_ints xs ys]
    show ((x == y) && decide (xs = ys)) = _
    rw [Bool.eq_iff_iff]; simp
theorem r_neInts {K : PySem.W.Frag} {H : Hp} {Q : VK} {p q : Addr} {xs ys : List Int} (h : SqL K H p (xs.map V.int)) (h' : SqL K H q (ys.map V.int)) (k : Q (.bl (!decide (xs = ys))) H) : rNeD K (.ref p) (.ref q) H Q :=
  ⟨.list (xs.map PyData.int), .list (ys.map PyData.int), .lst h (dp_ints xs), .lst h' (dp_ints ys), shaped_ints xs, shaped_ints ys, by
    rw [PyData.eqv, eqv_ints]; exact k⟩
theorem cut_ints (ns : List Int) (k : Int) : ∃ ms : List Int, cutV (ns.map V.int) none (some k) = ms.map V.int ∧ ms.length ≤ ns.length := by
  unfold cutV
  rw [← List.map_drop, ← List.map_take]
  exact ⟨_, rfl, by rw [List.length_take, List.length_drop]; omega⟩
end My
namespace My
open PySem L2
theorem r_forT {σ : L2.St} {H : Hp} {K : PySem.W.Frag} {tl : TE} {g : TG} {tb : TS} {D : Ends} (q : tl σ H fun x H1 => ∃ a, x = .ref a ∧ (∃ xs, SqT K H1 a xs) ∧ ∃ W : Nat → Nat → L2.St → Hp → Prop, (∃ m, W 0 m σ H1) ∧ ∀ i m σ H, W i m σ H →
    ((Itt K a).stop i H ∧ D.nx σ H) ∨ ((Itt K a).go i H ∧ ∃ N : L2.St → Hp → Prop, (∀ σ' H', N σ' H' → ∃ m', m' < m ∧ W (i + 1) m' σ' H') ∧ ∀ x H', (Itt K a).yld i H x H' → g x σ H' fun σ2 H2 => tb { D with nx := N, ct := N, bk := D.nx } σ2 H2)) : tFor (iTup K tl) g tb D σ H := q
end My

local macro_rules | `(tactic| walk_at "rd1") => `(tactic| first
  | with_reducible refine My.r_seq ?_
  | with_reducible refine My.r_asg ?_
  | with_reducible refine My.r_name ?_
  | with_reducible refine My.r_cons ?_
  | with_reducible refine My.r_nil ?_
  | with_reducible refine My.r_op ?_
  | ((with_reducible refine My.r_var ?_); refine ⟨_, rfl, ?_⟩)
  | with_reducible refine My.r_c ?_
  | with_reducible refine My.r_I0 ?_
  | with_reducible refine My.r_eqI ?_
  | with_reducible refine My.r_neI ?_
  | with_reducible refine My.r_eqS ?_
  | with_reducible refine My.r_eqB ?_
  | with_reducible refine My.r_test ?_
  | with_reducible refine My.r_B ?_
  | with_reducible refine My.r_k ?_
  | with_reducible refine My.r_un ?_
  | with_reducible refine My.r_U ?_
  | with_reducible refine My.r_ifs ?_
  | with_reducible refine My.r_ret ?_
  | with_reducible refine My.r_next ?_
  | with_reducible refine My.r_drop ?_
  | with_reducible refine My.r_CB ?_
  | with_reducible refine My.r_call ?_
  | with_reducible refine My.r_callN ?_
  | with_reducible refine My.r_meth ?_
  | with_reducible refine My.r_make ?_
  | with_reducible refine My.r_tup ?_
  | with_reducible refine My.r_lst ?_
  | with_reducible refine My.r_fldT ?_
  | with_reducible refine My.r_sFld ?_
  | with_reducible refine My.r_and ?_
  | with_reducible refine My.r_or ?_
  | with_reducible refine My.r_not ?_
  | with_reducible refine My.r_andV ?_
  | with_reducible refine My.r_orV ?_
  | with_reducible refine My.r_notV ?_
  | with_reducible refine My.r_if ?_
  | with_reducible refine My.r_gsub ?_
  | with_reducible refine My.r_sl ?_
  | with_reducible refine My.r_noPart ?_
  | with_reducible refine My.r_part ?_
  | with_reducible refine My.r_ki ?_
  | with_reducible refine My.r_bm0 ?_
  | with_reducible refine My.r_bm ?_
  | with_reducible refine My.r_rev ?_
  | ((with_reducible refine My.r_I ?_ ?_); (first | decide | exact .inl ⟨by decide, by decide⟩ | exact .inr ⟨by decide, by decide⟩ | exact ⟨by decide, by decide⟩ | exact ⟨by decide, by decide, by decide⟩)))
local macro_rules | `(tactic| walk_at "rd") => `(tactic| (repeat walk_at "rd1"))


namespace My
/-! ### rounded twice -/
def isHalf : Way → Bool
  | .heven | .hodd | .hup | .hdown => true
  | _ => false
/-- at the middle beyond l: whether up -/
def tieUp : Way → Int → Bool
  | .hup, l => decide (0 ≤ l)
  | .hdown, l => decide (l < 0)
  | .heven, l => decide (l % 2 = 1)
  | .hodd, l => decide (l % 2 = 0)
  | _, _ => false
theorem nearerB_lo {p : Rat} {a : Bool} (h : p < 1 / 2) : nearerB p a = false := by
  have d := p.den_pos
  have e : p.num * 2 < 1 * (p.den : Int) := by
    have := (Rat.lt_iff p (1 / 2)).mp h
    have h1 : ((1 : Rat) / 2).num = 1 := by decide +kernel
    have h2 : ((1 : Rat) / 2).den = 2 := by decide +kernel
    rw [h1, h2] at this
    exact this
  unfold nearerB
  rw [if_neg (by omega)]
  exact decide_eq_false (by omega)
theorem nearerB_hi {p : Rat} {a : Bool} (h : 1 / 2 < p) : nearerB p a = true := by
  have d := p.den_pos
  have e : 1 * (p.den : Int) < p.num * 2 := by
    have := (Rat.lt_iff (1 / 2) p).mp h
    have h1 : ((1 : Rat) / 2).num = 1 := by decide +kernel
    have h2 : ((1 : Rat) / 2).den = 2 := by decide +kernel
    rw [h1, h2] at this
    exact this
  unfold nearerB
  rw [if_neg (by omega)]
  exact decide_eq_true (by omega)
theorem nearerB_mid (a : Bool) : nearerB (1 / 2) a = a := by cases a <;> decide +kernel
theorem ruleB_lo {r : Way} (h : isHalf r = true) (l : Int) {p : Rat} (hp : p < 1 / 2) : ruleB r l p = false := by
  cases r <;> first | exact absurd h (by decide) | exact nearerB_lo hp
theorem ruleB_hi {r : Way} (h : isHalf r = true) (l : Int) {p : Rat} (hp : 1 / 2 < p) : ruleB r l p = true := by
  cases r <;> first | exact absurd h (by decide) | exact nearerB_hi hp
theorem ruleB_mid {r : Way} (h : isHalf r = true) (l : Int) : ruleB r l (1 / 2) = tieUp r l := by
  cases r <;> first | exact absurd h (by decide) | exact nearerB_mid _
theorem taken_int (r : Way) (c : Int) : takenQ r (c : Rat) = c := by
  have e : partQ (c : Rat) = 0 := by unfold partQ; rw [Rat.floor_intCast]; grind
  unfold takenQ
  rw [e, Rat.floor_intCast]
  rfl
/-- nearer than a half -/
theorem taken_near {r : Way} (h : isHalf r = true) {n : Rat} {t : Int} (h1 : (t : Rat) - 1 / 2 < n) (h2 : n < (t : Rat) + 1 / 2) : takenQ r n = t := by
  by_cases h0 : n = (t : Rat)
  · rw [h0]
    exact taken_int r t
  · by_cases hp : (t : Rat) < n
    · have e : n = (t : Rat) + (n - t) := by grind
      rw [e, taken_add (by grind) (by grind), ruleB_lo h t (by grind)]
      rfl
    · have e : n = ((t - 1 : Int) : Rat) + (n - t + 1) := by rw [Rat.intCast_sub]; grind
      rw [e, taken_add (by grind) (by grind), ruleB_hi h (t - 1) (by grind)]
      show t - 1 + 1 = t
      omega
theorem taken_mid {r : Way} (h : isHalf r = true) (l : Int) : takenQ r ((l : Rat) + 1 / 2) = if tieUp r l = true then l + 1 else l := by
  rw [taken_add (by decide +kernel) (by decide +kernel), ruleB_mid h l]
/-- every number is near one, or in the middle -/
theorem near_or_mid (n : Rat) : (∃ t : Int, (t : Rat) - 1 / 2 < n ∧ n < (t : Rat) + 1 / 2) ∨ ∃ l : Int, n = (l : Rat) + 1 / 2 := by
  have a := Rat.floor_le n
  have b := Rat.lt_floor_add_one n
  rw [Rat.intCast_add] at b
  by_cases h : n = (n.floor : Rat) + 1 / 2
  · exact .inr ⟨_, h⟩
  · by_cases h2 : n < (n.floor : Rat) + 1 / 2
    · exact .inl ⟨n.floor, by grind, h2⟩
    · exact .inl ⟨n.floor + 1, by rw [Rat.intCast_add]; grind, by rw [Rat.intCast_add]; grind⟩
def twiceT (r : Way) (m : Int) (u : Rat) : Int := takenQ r ((takenQ r u : Rat) / (m : Rat))
def onceT (r : Way) (m : Int) (u : Rat) : Int := takenQ r (u / (m : Rat))
theorem div_near {r : Way} (h : isHalf r = true) {m : Int} (hm : 0 < m) {s : Int} {n : Rat} (h1 : (s : Rat) * m - (m : Rat) / 2 < n) (h2 : n < (s : Rat) * m + (m : Rat) / 2) : takenQ r (n / (m : Rat)) = s := by
  have hm' : (0 : Rat) < (m : Rat) := Rat.intCast_pos.mpr hm
  refine taken_near h ?_ ?_
  · exact (Rat.lt_div_iff hm').mpr (by grind)
  · exact (Rat.div_lt_iff hm').mpr (by grind)
theorem div_mid {r : Way} (h : isHalf r = true) {m : Int} (hm : 0 < m) {s : Int} {n : Rat} (h1 : n = (s : Rat) * m + (m : Rat) / 2) : takenQ r (n / (m : Rat)) = if tieUp r s = true then s + 1 else s := by
  have hm' : (m : Rat) ≠ 0 := by have : (0 : Rat) < (m : Rat) := Rat.intCast_pos.mpr hm; grind
  rw [← taken_mid h s, h1]
  congr 1
  grind
theorem split_odd (j h : Int) (h0 : 0 ≤ h) : ∃ s e : Int, j = s * (2 * h + 1) + e ∧ -h ≤ e ∧ e ≤ h := by
  refine ⟨(j + h) / (2 * h + 1), (j + h) % (2 * h + 1) - h, ?_, ?_, ?_⟩
  · have := Int.mul_ediv_add_emod (j + h) (2 * h + 1)
    rw [Int.mul_comm] at this
    omega
  · have := Int.emod_nonneg (j + h) (b := 2 * h + 1) (by omega)
    omega
  · have := Int.emod_lt_of_pos (j + h) (b := 2 * h + 1) (by omega)
    omega
/-- by an odd number of steps -/
theorem never_odd {r : Way} (hr : isHalf r = true) {h : Int} (h0 : 0 ≤ h) (tie : ∀ s : Int, tieUp r (s * (2 * h + 1) + h) = tieUp r s) (u : Rat) : twiceT r (2 * h + 1) u = onceT r (2 * h + 1) u := by
  have hm : 0 < 2 * h + 1 := by omega
  have c : (((2 * h + 1 : Int)) : Rat) = 2 * (h : Rat) + 1 := by rw [Rat.intCast_add, Rat.intCast_mul]; rfl
  have hq : (0 : Rat) ≤ (h : Rat) := Rat.intCast_nonneg.mpr h0
  unfold twiceT onceT
  rcases near_or_mid u with ⟨j, h1, h2⟩ | ⟨l, hl⟩
  · obtain ⟨s, e, ej, e1, e2⟩ := split_odd j h h0
    have q1 : -(h : Rat) ≤ (e : Rat) := by have := Rat.intCast_le_intCast.mpr e1; rw [Rat.intCast_neg] at this; exact this
    have q2 : (e : Rat) ≤ (h : Rat) := Rat.intCast_le_intCast.mpr e2
    have ejq : (j : Rat) = (s : Rat) * (2 * (h : Rat) + 1) + (e : Rat) := by rw [ej, Rat.intCast_add, Rat.intCast_mul, c]
    rw [taken_near hr h1 h2, div_near hr hm (s := s) (by rw [c]; grind) (by rw [c]; grind), div_near hr hm (s := s) (by rw [c]; grind) (by rw [c]; grind)]
  · obtain ⟨s, e, ej, e1, e2⟩ := split_odd l h h0
    have q1 : -(h : Rat) ≤ (e : Rat) := by have := Rat.intCast_le_intCast.mpr e1; rw [Rat.intCast_neg] at this; exact this
    have ejq : (l : Rat) = (s : Rat) * (2 * (h : Rat) + 1) + (e : Rat) := by rw [ej, Rat.intCast_add, Rat.intCast_mul, c]
    subst hl
    rw [taken_mid hr l]
    by_cases he : e = h
    · subst he
      rw [ej, tie s]
      rw [div_mid hr hm (s := s) (n := ((s * (2 * e + 1) + e : Int) : Rat) + 1 / 2) (by rw [← ej, ejq, c]; grind)]
      cases tieUp r s with
      | true =>
        rw [if_pos rfl, if_pos rfl]
        exact div_near hr hm (by simp only [Rat.intCast_add, Rat.intCast_mul, Rat.intCast_sub, Rat.intCast_ofNat, Rat.intCast_one]; grind) (by simp only [Rat.intCast_add, Rat.intCast_mul, Rat.intCast_sub, Rat.intCast_ofNat, Rat.intCast_one]; grind)
      | false =>
        rw [if_neg Bool.false_ne_true, if_neg Bool.false_ne_true]
        exact div_near hr hm (by simp only [Rat.intCast_add, Rat.intCast_mul, Rat.intCast_sub, Rat.intCast_ofNat, Rat.intCast_one]; grind) (by simp only [Rat.intCast_add, Rat.intCast_mul, Rat.intCast_sub, Rat.intCast_ofNat, Rat.intCast_one]; grind)
    · have q2 : (e : Rat) + 1 ≤ (h : Rat) := by
        have := Rat.intCast_le_intCast.mpr (show e + 1 ≤ h by omega)
        rw [Rat.intCast_add] at this
        exact this
      rw [div_near hr hm (s := s) (n := (l : Rat) + 1 / 2) (by rw [c]; grind) (by rw [c]; grind)]
      split
      · exact div_near hr hm (by simp only [Rat.intCast_add, Rat.intCast_mul, Rat.intCast_sub, Rat.intCast_ofNat, Rat.intCast_one]; grind) (by simp only [Rat.intCast_add, Rat.intCast_mul, Rat.intCast_sub, Rat.intCast_ofNat, Rat.intCast_one]; grind)
      · exact div_near hr hm (by rw [c]; grind) (by rw [c]; grind)
/-! ### the ways that look at no halves -/
theorem low_eq (n : Rat) : takenQ .low n = n.floor := by
  unfold takenQ
  split <;> rfl
theorem part_zero {n : Rat} : (partQ n).num = 0 ↔ n = (n.floor : Rat) := by
  rw [Rat.num_eq_zero]
  unfold partQ
  constructor <;> intro h <;> grind
/-- the greater neighbour is told by inequalities -/
theorem high_of {n : Rat} {t : Int} (h1 : (t : Rat) - 1 < n) (h2 : n ≤ (t : Rat)) : takenQ .high n = t := by
  have a := Rat.floor_le n
  have b := Rat.lt_floor_add_one n
  rw [Rat.intCast_add] at b
  unfold takenQ
  by_cases h : n = (n.floor : Rat)
  · rw [if_pos (part_zero.mpr h)]
    have x1 : n.floor < t + 1 := Rat.intCast_lt_intCast.mp (by rw [Rat.intCast_add]; grind)
    have x2 : t - 1 < n.floor := Rat.intCast_lt_intCast.mp (by rw [Rat.intCast_sub]; grind)
    omega
  · rw [if_neg (fun z => h (part_zero.mp z)), if_pos (show ruleB .high n.floor (partQ n) = true from rfl)]
    have x1 : n.floor < t := Rat.intCast_lt_intCast.mp (by grind)
    have x2 : t - 1 < n.floor + 1 := Rat.intCast_lt_intCast.mp (by rw [Rat.intCast_sub, Rat.intCast_add]; grind)
    omega
theorem high_is (n : Rat) : (takenQ .high n : Rat) - 1 < n ∧ n ≤ (takenQ .high n : Rat) := by
  have a := Rat.floor_le n
  have b := Rat.lt_floor_add_one n
  rw [Rat.intCast_add] at b
  unfold takenQ
  by_cases h : n = (n.floor : Rat)
  · rw [if_pos (part_zero.mpr h)]
    grind
  · rw [if_neg (fun z => h (part_zero.mp z)), if_pos (show ruleB .high n.floor (partQ n) = true from rfl), Rat.intCast_add]
    grind
theorem low_of {n : Rat} {t : Int} (h1 : (t : Rat) ≤ n) (h2 : n < (t : Rat) + 1) : takenQ .low n = t := by
  rw [low_eq]
  have x1 : t ≤ n.floor := Rat.le_floor_iff.mpr h1
  have x2 : n.floor < t + 1 := Rat.floor_lt_iff.mpr (by rw [Rat.intCast_add]; exact h2)
  omega
theorem up_eq (n : Rat) : takenQ .up n = if 0 ≤ n.floor then takenQ .high n else takenQ .low n := by
  unfold takenQ
  by_cases h : (partQ n).num = 0
  · rw [if_pos h, if_pos h, if_pos h]; split <;> rfl
  · rw [if_neg h, if_neg h, if_neg h]
    show (if decide (0 ≤ n.floor) = true then _ else _) = _
    by_cases z : 0 ≤ n.floor
    · rw [if_pos (decide_eq_true z), if_pos z]; rfl
    · rw [if_neg (by simpa using z), if_neg z]; rfl
theorem down_eq (n : Rat) : takenQ .down n = if n.floor < 0 then takenQ .high n else takenQ .low n := by
  unfold takenQ
  by_cases h : (partQ n).num = 0
  · rw [if_pos h, if_pos h, if_pos h]; split <;> rfl
  · rw [if_neg h, if_neg h, if_neg h]
    show (if decide (n.floor < 0) = true then _ else _) = _
    by_cases z : n.floor < 0
    · rw [if_pos (decide_eq_true z), if_pos z]; rfl
    · rw [if_neg (by simpa using z), if_neg z]; rfl
theorem low_is (n : Rat) : (takenQ .low n : Rat) ≤ n ∧ n < (takenQ .low n : Rat) + 1 := by
  rw [low_eq]
  have b := Rat.lt_floor_add_one n
  rw [Rat.intCast_add] at b
  exact ⟨Rat.floor_le n, b⟩
/-- of a whole number of steps: by wholes alone -/
theorem low_div {m : Int} (hm : 0 < m) (u : Rat) : takenQ .low ((takenQ .low u : Rat) / (m : Rat)) = takenQ .low (u / (m : Rat)) := by
  have hm' : (0 : Rat) < (m : Rat) := Rat.intCast_pos.mpr hm
  obtain ⟨a, b⟩ := low_is (u / (m : Rat))
  obtain ⟨c, d⟩ := low_is u
  generalize takenQ .low (u / (m : Rat)) = t at *
  generalize takenQ .low u = j at *
  have e : u / (m : Rat) * m = u := by grind
  have a' : (t : Rat) * m ≤ u := by rw [← e]; exact Rat.mul_le_mul_of_nonneg_right a (Rat.le_of_lt hm')
  have b' : u < ((t : Rat) + 1) * m := by rw [← e]; exact Rat.mul_lt_mul_of_pos_right b hm'
  have x1 : t * m < j + 1 := Rat.intCast_lt_intCast.mp (by rw [Rat.intCast_add, Rat.intCast_mul]; grind)
  have x2 : j < (t + 1) * m := Rat.intCast_lt_intCast.mp (by rw [Rat.intCast_mul, Rat.intCast_add]; grind)
  have y1 : (t : Rat) * m ≤ (j : Rat) := by rw [← Rat.intCast_mul]; exact Rat.intCast_le_intCast.mpr (by omega)
  have y2 : (j : Rat) < ((t : Rat) + 1) * m := by have := Rat.intCast_lt_intCast.mpr x2; rw [Rat.intCast_mul, Rat.intCast_add] at this; exact this
  refine low_of ?_ ((Rat.div_lt_iff hm').mpr y2)
  have := (Rat.not_lt (a := (j : Rat) / m) (b := (t : Rat))).mp (fun z => by
    have := (Rat.div_lt_iff hm').mp z
    grind)
  exact this
theorem high_div {m : Int} (hm : 0 < m) (u : Rat) : takenQ .high ((takenQ .high u : Rat) / (m : Rat)) = takenQ .high (u / (m : Rat)) := by
  have hm' : (0 : Rat) < (m : Rat) := Rat.intCast_pos.mpr hm
  obtain ⟨a, b⟩ := high_is (u / (m : Rat))
  obtain ⟨c, d⟩ := high_is u
  generalize takenQ .high (u / (m : Rat)) = t at *
  generalize takenQ .high u = j at *
  have e : u / (m : Rat) * m = u := by grind
  have a' : ((t : Rat) - 1) * m < u := by rw [← e]; exact Rat.mul_lt_mul_of_pos_right a hm'
  have b' : u ≤ (t : Rat) * m := by rw [← e]; exact Rat.mul_le_mul_of_nonneg_right b (Rat.le_of_lt hm')
  have x1 : (t - 1) * m < j := Rat.intCast_lt_intCast.mp (by rw [Rat.intCast_mul, Rat.intCast_sub]; grind)
  have x2 : j - 1 < t * m := Rat.intCast_lt_intCast.mp (by rw [Rat.intCast_sub, Rat.intCast_mul]; grind)
  have y1 : ((t : Rat) - 1) * m < (j : Rat) := by have := Rat.intCast_lt_intCast.mpr x1; rw [Rat.intCast_mul, Rat.intCast_sub] at this; exact this
  have y2 : (j : Rat) ≤ (t : Rat) * m := by rw [← Rat.intCast_mul]; exact Rat.intCast_le_intCast.mpr (by omega)
  refine high_of ((Rat.lt_div_iff hm').mpr y1) ?_
  exact (Rat.not_lt (a := (t : Rat)) (b := (j : Rat) / m)).mp (fun z => by
    have := (Rat.lt_div_iff hm').mp z
    grind)
theorem floor_nn {n : Rat} : 0 ≤ n.floor ↔ 0 ≤ n := by
  rw [Rat.le_floor_iff]; rfl
theorem div_nn {m : Int} (hm : 0 < m) {n : Rat} : 0 ≤ n / (m : Rat) ↔ 0 ≤ n := by
  have hm' : (0 : Rat) < (m : Rat) := Rat.intCast_pos.mpr hm
  constructor
  · intro h
    have e : n / (m : Rat) * m = n := by grind
    rw [← e]
    exact Rat.mul_nonneg h (Rat.le_of_lt hm')
  · intro h
    exact (Rat.not_lt).mp (fun z => by
      have := (Rat.div_lt_iff hm').mp z
      grind)
theorem never_whole {r : Way} (hr : isHalf r = false) {m : Int} (hm : 0 < m) (u : Rat) : twiceT r m u = onceT r m u := by
  unfold twiceT onceT
  cases r with
  | hup => cases hr
  | hdown => cases hr
  | heven => cases hr
  | hodd => cases hr
  | low => exact low_div hm u
  | high => exact high_div hm u
  | up =>
    obtain ⟨c, d⟩ := high_is u
    obtain ⟨c2, d2⟩ := low_is u
    by_cases h : 0 ≤ u
    · have hj : (0 : Rat) ≤ (takenQ .high u : Rat) := Rat.le_trans h d
      rw [up_eq u, if_pos (floor_nn.mpr h), up_eq, if_pos (floor_nn.mpr ((div_nn hm).mpr hj)), up_eq, if_pos (floor_nn.mpr ((div_nn hm).mpr h)), high_div hm]
    · have hj : ¬ (0 : Rat) ≤ (takenQ .low u : Rat) := fun z => h (Rat.le_trans z c2)
      rw [up_eq u, if_neg (fun z => h (floor_nn.mp z)), up_eq, if_neg (fun z => hj ((div_nn hm).mp (floor_nn.mp z))), up_eq, if_neg (fun z => h ((div_nn hm).mp (floor_nn.mp z))), low_div hm]
  | down =>
    obtain ⟨c, d⟩ := high_is u
    obtain ⟨c2, d2⟩ := low_is u
    have neg : ∀ n : Rat, n.floor < 0 ↔ ¬ 0 ≤ n := fun n => by
      rw [← floor_nn]
      omega
    by_cases h : 0 ≤ u
    · have j0 : 0 ≤ takenQ .low u := by rw [low_eq]; exact floor_nn.mpr h
      have hj : (0 : Rat) ≤ (takenQ .low u : Rat) := Rat.intCast_nonneg.mpr j0
      rw [down_eq u, if_neg (fun z => (neg u).mp z h), down_eq, if_neg (fun z => (neg _).mp z ((div_nn hm).mpr hj)), down_eq, if_neg (fun z => (neg _).mp z ((div_nn hm).mpr h)), low_div hm]
    · rw [down_eq u, if_pos ((neg u).mpr h), down_eq (u / (m : Rat)), if_pos ((neg _).mpr fun z => h ((div_nn hm).mp z)), ← high_div hm u]
      by_cases hj : 0 ≤ (takenQ .high u : Rat)
      · have e0 : takenQ .high u = 0 := by
          have x1 : 0 ≤ takenQ .high u := Rat.intCast_nonneg.mp hj
          have x2 : takenQ .high u - 1 < 0 := Rat.intCast_neg_iff.mp (by rw [Rat.intCast_sub]; grind)
          omega
        rw [e0]
        have e1 : ((0 : Int) : Rat) / (m : Rat) = ((0 : Int) : Rat) := by grind
        rw [e1, taken_int, taken_int]
      · rw [down_eq, if_pos ((neg _).mpr fun z => hj ((div_nn hm).mp z))]
/-! ### the three numbers that are tried -/
def partsW (r : Way) (m : Int) : Bool := isHalf r && (decide (m % 2 = 0) || ((match r with | .heven => true | .hodd => true | _ => false) && decide (m % 4 = 3)))
def candU (m : Int) : List Rat := [(m : Rat) / 2 - 1 / 4, (m : Rat) / 2, (m : Rat) / 2 + 1 / 4]
theorem never_of {r : Way} {m : Int} (hm : 2 ≤ m) (h : partsW r m = false) (u : Rat) : twiceT r m u = onceT r m u := by
  cases hr : isHalf r with
  | false => exact never_whole hr (by omega) u
  | true =>
    have hodd : m % 2 = 1 := by
      by_cases z : m % 2 = 0
      · unfold partsW at h
        rw [hr, decide_eq_true z] at h
        cases h
      · omega
    obtain ⟨k, rfl⟩ : ∃ k, m = 2 * k + 1 := ⟨m / 2, by omega⟩
    refine never_odd hr (by omega) (fun s => ?_) u
    have key : s * (2 * k + 1) + k = 2 * (s * k) + s + k := by grind
    cases r with
    | up => cases hr
    | down => cases hr
    | high => cases hr
    | low => cases hr
    | hup =>
      show decide (0 ≤ s * (2 * k + 1) + k) = decide (0 ≤ s)
      rw [decide_eq_decide]
      constructor
      · intro z
        by_cases q : 0 ≤ s
        · exact q
        · have : s * (2 * k + 1) ≤ -1 * (2 * k + 1) := Int.mul_le_mul_of_nonneg_right (by omega) (by omega)
          omega
      · intro z
        have := Int.mul_nonneg z (show 0 ≤ 2 * k + 1 by omega)
        omega
    | hdown =>
      show decide (s * (2 * k + 1) + k < 0) = decide (s < 0)
      rw [decide_eq_decide]
      constructor
      · intro z
        by_cases q : s < 0
        · exact q
        · have := Int.mul_nonneg (show 0 ≤ s by omega) (show 0 ≤ 2 * k + 1 by omega)
          omega
      · intro z
        have : s * (2 * k + 1) ≤ -1 * (2 * k + 1) := Int.mul_le_mul_of_nonneg_right (by omega) (by omega)
        omega
    | heven =>
      have h4 : ¬ (2 * k + 1) % 4 = 3 := fun z => by
        unfold partsW at h
        rw [decide_eq_true z, Bool.and_true, Bool.or_true] at h
        cases h
      show decide ((s * (2 * k + 1) + k) % 2 = 1) = decide (s % 2 = 1)
      rw [decide_eq_decide, key]
      omega
    | hodd =>
      have h4 : ¬ (2 * k + 1) % 4 = 3 := fun z => by
        unfold partsW at h
        rw [decide_eq_true z, Bool.and_true, Bool.or_true] at h
        cases h
      show decide ((s * (2 * k + 1) + k) % 2 = 0) = decide (s % 2 = 0)
      rw [decide_eq_decide, key]
      omega
theorem some_of {r : Way} {m : Int} (hm : 2 ≤ m) (h : partsW r m = true) : ∃ u ∈ candU m, twiceT r m u ≠ onceT r m u := by
  have hr : isHalf r = true := by
    unfold partsW at h
    exact (Bool.and_eq_true_iff.mp h).1
  have hmq : (2 : Rat) ≤ (m : Rat) := by have := Rat.intCast_le_intCast.mpr hm; exact this
  unfold twiceT onceT
  by_cases z : m % 2 = 0
  · obtain ⟨k, rfl⟩ : ∃ k, m = 2 * k := ⟨m / 2, by omega⟩
    have c : (((2 * k : Int)) : Rat) = 2 * (k : Rat) := by rw [Rat.intCast_mul]; rfl
    have hk : (1 : Rat) ≤ (k : Rat) := by have := Rat.intCast_le_intCast.mpr (show 1 ≤ k by omega); exact this
    have c0 : ((0 : Int) : Rat) = 0 := rfl
    have c1 : ((1 : Int) : Rat) = 1 := rfl
    have e1 : takenQ r ((((2 * k : Int)) : Rat) / 2 - 1 / 4) = k := taken_near hr (by rw [c]; grind) (by rw [c]; grind)
    have e3 : takenQ r ((((2 * k : Int)) : Rat) / 2 + 1 / 4) = k := taken_near hr (by rw [c]; grind) (by rw [c]; grind)
    have ek : takenQ r ((k : Rat) / ((2 * k : Int) : Rat)) = if tieUp r 0 = true then 0 + 1 else 0 := div_mid hr (by omega) (by rw [c, c0]; grind)
    cases t : tieUp r 0 with
    | true =>
      refine ⟨_, List.mem_cons_self, ?_⟩
      rw [e1, ek, t, if_pos rfl, div_near hr (by omega) (s := 0) (by rw [c, c0]; grind) (by rw [c, c0]; grind)]
      decide
    | false =>
      refine ⟨_, List.mem_cons_of_mem _ (List.mem_cons_of_mem _ List.mem_cons_self), ?_⟩
      rw [e3, ek, t, if_neg Bool.false_ne_true, div_near hr (by omega) (s := 1) (by rw [c, c1]; grind) (by rw [c, c1]; grind)]
      decide
  · obtain ⟨k, rfl⟩ : ∃ k, m = 2 * k + 1 := ⟨m / 2, by omega⟩
    have c : (((2 * k + 1 : Int)) : Rat) = 2 * (k : Rat) + 1 := by rw [Rat.intCast_add, Rat.intCast_mul]; rfl
    have hk : (1 : Rat) ≤ (k : Rat) := by have := Rat.intCast_le_intCast.mpr (show 1 ≤ k by omega); exact this
    have c0 : ((0 : Int) : Rat) = 0 := rfl
    have c1 : ((1 : Int) : Rat) = 1 := rfl
    have e2 : takenQ r ((((2 * k + 1 : Int)) : Rat) / 2) = if tieUp r k = true then k + 1 else k := by
      rw [← taken_mid hr k]
      congr 1
      rw [c]; grind
    have o2 : takenQ r ((((2 * k + 1 : Int)) : Rat) / 2 / ((2 * k + 1 : Int) : Rat)) = if tieUp r 0 = true then 0 + 1 else 0 := div_mid hr (by omega) (by rw [c0]; grind)
    have h4 : (2 * k + 1) % 4 = 3 ∧ (r = .heven ∨ r = .hodd) := by
      unfold partsW at h
      rw [hr, decide_eq_false z] at h
      cases r <;> simp_all
    refine ⟨_, List.mem_cons_of_mem _ List.mem_cons_self, ?_⟩
    have up1 : takenQ r (((k + 1 : Int) : Rat) / ((2 * k + 1 : Int) : Rat)) = 1 := div_near hr (by omega) (by simp only [Rat.intCast_add, Rat.intCast_mul, Rat.intCast_sub, Rat.intCast_ofNat, Rat.intCast_one]; grind) (by simp only [Rat.intCast_add, Rat.intCast_mul, Rat.intCast_sub, Rat.intCast_ofNat, Rat.intCast_one]; grind)
    have lo1 : takenQ r ((k : Rat) / ((2 * k + 1 : Int) : Rat)) = 0 := div_near hr (by omega) (by rw [c, c0]; grind) (by rw [c, c0]; grind)
    rw [e2, o2]
    obtain ⟨h4, rfl | rfl⟩ := h4
    · have t1 : tieUp .heven k = true := decide_eq_true (by omega)
      rw [t1, if_pos rfl, up1]
      decide
    · have t1 : tieUp .hodd k = false := decide_eq_false (by omega)
      rw [t1, if_neg Bool.false_ne_true, lo1]
      decide
end My

namespace My
/-! ### farther by whole numbers; sizes -/
theorem taken_within (r : Way) (u : Rat) : (takenQ r u : Rat) < u + 1 ∧ u - 1 < (takenQ r u : Rat) := by
  have a := Rat.floor_le u
  have b := Rat.lt_floor_add_one u
  rw [Rat.intCast_add] at b
  unfold takenQ
  by_cases h : u = (u.floor : Rat)
  · rw [if_pos (part_zero.mpr h)]
    grind
  · rw [if_neg (fun z => h (part_zero.mp z))]
    split
    · rw [Rat.intCast_add]; grind
    · grind
theorem floor_shift (u : Rat) (j : Int) : (u + (j : Rat)).floor = u.floor + j := by
  have a := Rat.floor_le u
  have b := Rat.lt_floor_add_one u
  rw [Rat.intCast_add] at b
  have x : u.floor + j ≤ (u + (j : Rat)).floor := Rat.le_floor_iff.mpr (by rw [Rat.intCast_add]; grind)
  have y : (u + (j : Rat)).floor < u.floor + j + 1 := Rat.floor_lt_iff.mpr (by rw [Rat.intCast_add, Rat.intCast_add]; grind)
  omega
theorem part_shift (u : Rat) (j : Int) : partQ (u + (j : Rat)) = partQ u := by
  unfold partQ
  rw [floor_shift, Rat.intCast_add]
  grind
theorem rule_shift (r : Way) {l j : Int} (p : Rat) (hl : 0 ≤ l) (hj : 0 ≤ j) (h2 : j % 2 = 0) : ruleB r (l + j) p = ruleB r l p := by
  have e1 : decide (0 ≤ l + j) = decide (0 ≤ l) := by rw [decide_eq_decide]; omega
  have e2 : decide (l + j < 0) = decide (l < 0) := by rw [decide_eq_decide]; omega
  have e3 : decide ((l + j) % 2 = 1) = decide (l % 2 = 1) := by rw [decide_eq_decide]; omega
  have e4 : decide ((l + j) % 2 = 0) = decide (l % 2 = 0) := by rw [decide_eq_decide]; omega
  cases r <;> simp only [ruleB, e1, e2, e3, e4]
theorem taken_shift (r : Way) {u : Rat} {j : Int} (hu : 0 ≤ u) (hj : 0 ≤ j) (h2 : j % 2 = 0) : takenQ r (u + (j : Rat)) = takenQ r u + j := by
  unfold takenQ
  rw [part_shift, floor_shift, rule_shift r _ (floor_nn.mpr hu) hj h2]
  split
  · rfl
  · split <;> omega
theorem taken_nn (r : Way) {u : Rat} (hu : 0 ≤ u) : 0 ≤ takenQ r u := by
  have := floor_nn.mpr hu
  unfold takenQ
  split
  · exact this
  · split <;> omega
theorem twice_shift (r : Way) {m j : Int} {u : Rat} (hm : 0 < m) (hu : 0 ≤ u) (hj : 0 ≤ j) (h2 : j % 2 = 0) : twiceT r m (u + (j : Rat) * m) = twiceT r m u + j ∧ onceT r m (u + (j : Rat) * m) = onceT r m u + j := by
  have hm' : (0 : Rat) < (m : Rat) := Rat.intCast_pos.mpr hm
  have h3 : j * m % 2 = 0 := by
    obtain ⟨q, rfl⟩ : ∃ q, j = 2 * q := ⟨j / 2, by omega⟩
    rw [Int.mul_assoc]; omega
  have h4 : 0 ≤ j * m := Int.mul_nonneg hj (by omega)
  have e : (j : Rat) * (m : Rat) = ((j * m : Int) : Rat) := (Rat.intCast_mul _ _).symm
  unfold twiceT onceT
  constructor
  · rw [e, taken_shift r hu h4 h3, Rat.intCast_add, Rat.intCast_mul]
    have q : ((takenQ r u : Rat) + (j : Rat) * (m : Rat)) / (m : Rat) = (takenQ r u : Rat) / (m : Rat) + (j : Rat) := by grind
    rw [q, taken_shift r ((div_nn hm).mpr (Rat.intCast_nonneg.mpr (taken_nn r hu))) hj h2]
  · have q : (u + (j : Rat) * (m : Rat)) / (m : Rat) = u / (m : Rat) + (j : Rat) := by grind
    rw [q, taken_shift r ((div_nn hm).mpr hu) hj h2]
def absQ (x : Rat) : Rat := Rat.divInt (if x.num < 0 then -x.num else x.num) (x.den : Int)
theorem absQ_eq (x : Rat) : absQ x = if 0 ≤ x then x else -x := by
  unfold absQ
  by_cases h : 0 ≤ x
  · have : 0 ≤ x.num := Rat.num_nonneg.mpr h
    rw [if_pos h, if_neg (by omega), Rat.num_divInt_den]
  · have : ¬ 0 ≤ x.num := fun z => h (Rat.num_nonneg.mp z)
    rw [if_neg h, if_pos (by omega), ← Rat.neg_divInt, Rat.num_divInt_den]
theorem absQ_lt {x y : Rat} (h1 : x < y) (h2 : -y < x) : absQ x < y := by
  rw [absQ_eq]
  split <;> grind
theorem absQ_bd {n : Nat} {x : Rat} (h : Bd n x) : Bd n (absQ x) := by
  have := h.1
  refine Bd.of (den_ne x) (by split <;> omega) (by have := h.2; omega)
theorem lt_dec (x y : Rat) : decide (x < y) = decide (x.num * (y.den : Int) < y.num * (x.den : Int)) := by
  rw [decide_eq_decide]
  exact Rat.lt_iff x y
/-- rounded, a number lies within a step -/
theorem step_within {r : Way} {n x : Rat} (hx : 0 < x) : absQ (n - x * (takenQ r (n / x) : Rat)) < x := by
  obtain ⟨a, b⟩ := taken_within r (n / x)
  have e : n = n / x * x := by grind
  have p : (takenQ r (n / x) : Rat) * x < (n / x + 1) * x := Rat.mul_lt_mul_of_pos_right a hx
  have q : (n / x - 1) * x < (takenQ r (n / x) : Rat) * x := Rat.mul_lt_mul_of_pos_right b hx
  refine absQ_lt ?_ ?_ <;> grind
end My

namespace My
/-! ### powers of ten -/
def T10 (p : Int) : Rat := (10 : Rat) ^ p
theorem T10_pos (p : Int) : 0 < T10 p := Rat.zpow_pos (by decide +kernel)
theorem T10_ne (p : Int) : T10 p ≠ 0 := by have := T10_pos p; grind
theorem T10_add (p q : Int) : T10 (p + q) = T10 p * T10 q := Rat.zpow_add (by decide +kernel) p q
theorem T10_zero : T10 0 = 1 := Rat.zpow_zero _
theorem T10_one : T10 1 = 10 := by
  have := Rat.zpow_add_one (q := 10) (by decide +kernel) 0
  rw [Rat.zpow_zero] at this
  show (10 : Rat) ^ (1 : Int) = 10
  rw [show (1 : Int) = 0 + 1 from rfl, this]
  grind
theorem T10_succ (p : Int) : T10 (p + 1) = T10 p * 10 := by rw [T10_add, T10_one]
theorem T10_nat (n : Nat) : T10 (n : Int) = ((10 ^ n : Int) : Rat) := by
  induction n with
  | zero => exact T10_zero
  | succ n ih =>
    rw [Int.natCast_succ, T10_succ, ih, Int.pow_succ, Rat.intCast_mul]
    rfl
theorem T10_neg (p : Int) : T10 (-p) = 1 / T10 p := by
  have : T10 (-p) * T10 p = 1 := by rw [← T10_add, Int.add_left_neg]; exact T10_zero
  have := T10_ne p
  grind
theorem T10_lt_nat (p : Int) (n : Nat) : T10 p < T10 (p + ((n : Int) + 1)) := by
  have hp := T10_pos p
  induction n with
  | zero =>
    show T10 p < T10 (p + 1)
    rw [T10_succ]
    grind
  | succ n ih =>
    have e : p + (((n + 1 : Nat) : Int) + 1) = p + ((n : Int) + 1) + 1 := by omega
    have := T10_pos (p + ((n : Int) + 1))
    rw [e, T10_succ]
    grind
theorem T10_lt {p q : Int} (h : p < q) : T10 p < T10 q := by
  have := T10_lt_nat p (q - p - 1).toNat
  have e : p + (((q - p - 1).toNat : Int) + 1) = q := by omega
  rw [e] at this
  exact this
theorem T10_le {p q : Int} (h : p ≤ q) : T10 p ≤ T10 q := by
  by_cases e : p = q
  · rw [e]; exact Rat.le_refl
  · exact Rat.le_of_lt (T10_lt (by omega))
theorem T10_lt_iff {p q : Int} : T10 p < T10 q ↔ p < q := by
  constructor
  · intro h
    by_cases z : p < q
    · exact z
    · have := T10_le (show q ≤ p by omega)
      grind
  · exact T10_lt
/-- the power of x -/
def Pow (p : Int) (x : Rat) : Prop := T10 p ≤ absQ x ∧ absQ x < T10 (p + 1)
theorem absQ_mul_pos {x t : Rat} (ht : 0 < t) : absQ (x * t) = absQ x * t := by
  rw [absQ_eq, absQ_eq]
  by_cases h : 0 ≤ x
  · have : 0 ≤ x * t := Rat.mul_nonneg h (Rat.le_of_lt ht)
    rw [if_pos this, if_pos h]
  · have h' : 0 < -x := by grind
    have : 0 < -x * t := Rat.mul_pos h' ht
    rw [if_neg (by grind), if_neg h]
    grind
theorem absQ_neg (x : Rat) : absQ (-x) = absQ x := by
  rw [absQ_eq, absQ_eq]
  split <;> split <;> grind
theorem absQ_nn (x : Rat) : 0 ≤ absQ x := by
  rw [absQ_eq]; split <;> grind
theorem Pow.mul {p k : Int} {x : Rat} (h : Pow p x) : Pow (p + k) (x * T10 k) := by
  have hk := T10_pos k
  unfold Pow at h ⊢
  rw [absQ_mul_pos hk, show p + k + 1 = (p + 1) + k by omega, T10_add, T10_add]
  exact ⟨Rat.mul_le_mul_of_nonneg_right h.1 (Rat.le_of_lt hk), Rat.mul_lt_mul_of_pos_right h.2 hk⟩
theorem Pow.neg {p : Int} {x : Rat} (h : Pow p x) : Pow p (-x) := by
  unfold Pow at h ⊢
  rw [absQ_neg]
  exact h
theorem Pow.ne {p : Int} {x : Rat} (h : Pow p x) : x ≠ 0 := by
  intro e
  have := h.1
  have := T10_pos p
  rw [e, absQ_eq, if_pos (by decide +kernel)] at *
  grind
theorem pow10_lt (n : Nat) : (10 ^ n : Int).natAbs < 2 ^ (4 * n + 1) := by
  rw [Int.natAbs_pow]
  have : (10 : Nat) ^ n ≤ (2 ^ 4) ^ n := Nat.pow_le_pow_left (by decide) n
  rw [← Nat.pow_mul] at this
  have h2 : 2 ^ (4 * n) < 2 ^ (4 * n + 1) := Nat.pow_lt_pow_right (by decide) (by omega)
  exact Nat.lt_of_le_of_lt this h2
theorem T10_bd {p : Int} {k : Nat} (h : p.natAbs ≤ k) : Bd (4 * k + 1) (T10 p) := by
  have b := Nat.lt_of_lt_of_le (pow10_lt p.natAbs) (Nat.pow_le_pow_right (by decide : 0 < 2) (show 4 * p.natAbs + 1 ≤ 4 * k + 1 by omega))
  by_cases z : 0 ≤ p
  · have e : p = (p.natAbs : Int) := by omega
    rw [e, T10_nat]
    exact Bd.int b (by omega)
  · have e : p = -(p.natAbs : Int) := by omega
    rw [e, T10_neg, T10_nat]
    have e2 : 1 / (((10 ^ p.natAbs : Int)) : Rat) = Rat.divInt 1 (10 ^ p.natAbs : Int) := by rw [Rat.divInt_eq_div]; rfl
    rw [e2]
    exact Bd.of (Int.pow_ne_zero (by decide)) (Nat.lt_of_lt_of_le (by decide : Int.natAbs 1 < 2 ^ 1) (Nat.pow_le_pow_right (by decide) (by omega))) b
/-! ### to so many figures -/
def figQ (r : Way) (c p : Int) (x : Rat) : Rat := T10 (p - c + 1) * (takenQ r (x / T10 (p - c + 1)) : Rat)
theorem fig_stay {r : Way} {c p m : Int} {x : Rat} (h : x / T10 (p - c + 1) = (m : Rat)) : figQ r c p x = x := by
  have := T10_ne (p - c + 1)
  unfold figQ
  rw [h, taken_int, ← h]
  grind
theorem fig_mul {r : Way} {c p k : Int} {x : Rat} : figQ r c (p + k) (x * T10 k) = figQ r c p x * T10 k := by
  have h1 := T10_ne (p - c + 1)
  have h2 := T10_ne k
  unfold figQ
  rw [show p + k - c + 1 = (p - c + 1) + k by omega, T10_add]
  have e : x * T10 k / (T10 (p - c + 1) * T10 k) = x / T10 (p - c + 1) := by grind
  rw [e]
  grind
def turnW : Way → Way
  | .high => .low
  | .low => .high
  | r => r
theorem floor_of {n : Rat} {l : Int} (h1 : (l : Rat) ≤ n) (h2 : n < (l : Rat) + 1) : n.floor = l := by
  have a : l ≤ n.floor := Rat.le_floor_iff.mpr h1
  have b : n.floor < l + 1 := Rat.floor_lt_iff.mpr (by rw [Rat.intCast_add]; exact h2)
  omega
theorem nearerB_neg {p : Rat} {a : Bool} : nearerB (1 - p) (!a) = !nearerB p a := by
  by_cases h : p < 1 / 2
  · rw [nearerB_lo h, nearerB_hi (by grind)]; rfl
  · by_cases h2 : p = 1 / 2
    · have e : 1 - p = 1 / 2 := by grind
      rw [e, h2, nearerB_mid, nearerB_mid]
    · rw [nearerB_lo (p := 1 - p) (by grind), nearerB_hi (p := p) (by grind)]; rfl
theorem taken_neg (r : Way) (u : Rat) : takenQ (turnW r) (-u) = -takenQ r u := by
  by_cases h : u = (u.floor : Rat)
  · rw [h, ← Rat.intCast_neg, taken_int, taken_int]
  · have a := Rat.floor_le u
    have b := Rat.lt_floor_add_one u
    rw [Rat.intCast_add] at b
    have e1 : u = (u.floor : Rat) + (u - (u.floor : Rat)) := by grind
    have e2 : -u = (((-u.floor - 1 : Int)) : Rat) + (1 - (u - (u.floor : Rat))) := by rw [Rat.intCast_sub, Rat.intCast_neg]; grind
    generalize u.floor = l at *
    rw [e2, taken_add (by grind) (by grind)]
    have t : takenQ r u = if ruleB r l (u - l) = true then l + 1 else l := by
      conv => lhs; rw [e1]
      exact taken_add (by grind) (by grind)
    rw [t]
    have key : ruleB (turnW r) (-l - 1) (1 - (u - l)) = !ruleB r l (u - l) := by
      have f1 : decide (0 ≤ -l - 1) = !decide (0 ≤ l) := by
        by_cases z : 0 ≤ l
        · rw [decide_eq_true z, decide_eq_false (by omega)]; rfl
        · rw [decide_eq_false z, decide_eq_true (by omega)]; rfl
      have f2 : decide (-l - 1 < 0) = !decide (l < 0) := by
        by_cases z : l < 0
        · rw [decide_eq_true z, decide_eq_false (by omega)]; rfl
        · rw [decide_eq_false z, decide_eq_true (by omega)]; rfl
      have f3 : decide ((-l - 1) % 2 = 1) = !decide (l % 2 = 1) := by
        by_cases z : l % 2 = 1
        · rw [decide_eq_true z, decide_eq_false (by omega)]; rfl
        · rw [decide_eq_false z, decide_eq_true (by omega)]; rfl
      have f4 : decide ((-l - 1) % 2 = 0) = !decide (l % 2 = 0) := by
        by_cases z : l % 2 = 0
        · rw [decide_eq_true z, decide_eq_false (by omega)]; rfl
        · rw [decide_eq_false z, decide_eq_true (by omega)]; rfl
      cases r <;> simp only [turnW, ruleB, f1, f2, f3, f4, nearerB_neg, Bool.not_true, Bool.not_false]
    rw [key]
    cases ruleB r l (u - l) with
    | true =>
      rw [if_neg (by simp), if_pos rfl]
      omega
    | false =>
      rw [if_pos (by simp), if_neg (by simp)]
      omega
theorem fig_neg {r : Way} {c p : Int} {x : Rat} : figQ (turnW r) c p (-x) = -figQ r c p x := by
  unfold figQ
  have e : -x / T10 (p - c + 1) = -(x / T10 (p - c + 1)) := by have := T10_ne (p - c + 1); grind
  rw [e, taken_neg, Rat.intCast_neg]
  grind
end My

namespace My
theorem pow_step {q : Rat} {a : Int} (h1 : T10 a ≤ q) : ∀ m : Nat, q < T10 (a + (m : Int)) → ∃ p, a ≤ p ∧ p < a + (m : Int) ∧ T10 p ≤ q ∧ q < T10 (p + 1)
  | 0, h => by
    rw [show a + ((0 : Nat) : Int) = a by omega] at h
    grind
  | m + 1, h => by
    by_cases z : q < T10 (a + (m : Int))
    · obtain ⟨p, p1, p2, p3, p4⟩ := pow_step h1 m z
      exact ⟨p, p1, by omega, p3, p4⟩
    · refine ⟨a + (m : Int), by omega, by omega, by grind, ?_⟩
      rw [show a + (m : Int) + 1 = a + ((m + 1 : Nat) : Int) by omega]
      exact h
theorem absQ_div {t b : Int} (hb : 0 < b) : absQ (Rat.divInt t b) = ((t.natAbs : Int) : Rat) / (b : Rat) := by
  have hb' : (0 : Rat) < (b : Rat) := Rat.intCast_pos.mpr hb
  have ib : (0 : Rat) < 1 / (b : Rat) := (Rat.lt_div_iff hb').mpr (by grind)
  have e : Rat.divInt t b = (t : Rat) * (1 / (b : Rat)) := by rw [Rat.divInt_eq_div]; grind
  rw [e, absQ_mul_pos ib, absQ_eq]
  have n : (if 0 ≤ (t : Rat) then (t : Rat) else -(t : Rat)) = ((t.natAbs : Int) : Rat) := by
    by_cases h : 0 ≤ t
    · rw [if_pos (Rat.intCast_nonneg.mpr h)]
      congr 1; omega
    · rw [if_neg (fun z => h (Rat.intCast_nonneg.mp z)), ← Rat.intCast_neg]
      congr 1; omega
  rw [n]
  grind
theorem le_div {x y z : Rat} (hz : 0 < z) (h : x * z ≤ y) : x ≤ y / z := by
  refine Rat.not_lt.mp fun q => ?_
  have := (Rat.div_lt_iff hz).mp q
  grind
/-- the power, found by whole numbers -/
theorem pow_grain {t b : Int} {i j : Nat} (hb : 0 < b) (h1 : (10 : Int) ^ i * b ≤ (10 : Int) ^ j * (t.natAbs : Int)) (h2 : (10 : Int) ^ j * (t.natAbs : Int) < 10 * ((10 : Int) ^ i * b)) : Pow ((i : Int) - (j : Int)) (Rat.divInt t b) := by
  have hb' : (0 : Rat) < (b : Rat) := Rat.intCast_pos.mpr hb
  have hj := T10_pos (j : Int)
  have h1' := Rat.intCast_le_intCast.mpr h1
  have h2' := Rat.intCast_lt_intCast.mpr h2
  have e10 : ((10 : Int) : Rat) = 10 := rfl
  rw [Rat.intCast_mul, Rat.intCast_mul, ← T10_nat, ← T10_nat] at h1'
  rw [Rat.intCast_mul, Rat.intCast_mul, Rat.intCast_mul, ← T10_nat, ← T10_nat, e10] at h2'
  have split : T10 (i : Int) = T10 ((i : Int) - (j : Int)) * T10 (j : Int) := by rw [← T10_add]; congr 1; omega
  rw [split] at h1' h2'
  unfold Pow
  rw [absQ_div hb, T10_succ]
  generalize T10 ((i : Int) - (j : Int)) = u at *
  generalize T10 (j : Int) = v at *
  generalize ((t.natAbs : Int) : Rat) = y at *
  generalize (b : Rat) = z at *
  constructor
  · refine le_div hb' (Rat.not_lt.mp fun q => ?_)
    have := Rat.mul_lt_mul_of_pos_right q hj
    grind
  · refine (Rat.div_lt_iff hb').mpr ?_
    refine Rat.not_le.mp fun q => ?_
    have := Rat.mul_le_mul_of_nonneg_right q (Rat.le_of_lt hj)
    grind
theorem pow_unique {p p' : Int} {x : Rat} (h : Pow p x) (h' : Pow p' x) : p = p' := by
  have a : p < p' + 1 := T10_lt_iff.mp (by have := h.1; have := h'.2; grind)
  have b : p' < p + 1 := T10_lt_iff.mp (by have := h'.1; have := h.2; grind)
  omega
theorem pow_there {t b : Int} (t0 : t ≠ 0) (hb : 0 < b) {i j : Nat} (ht : (t.natAbs : Int) < (10 : Int) ^ i) (hj : b ≤ (10 : Int) ^ j) : ∃ p : Int, -(j : Int) ≤ p ∧ p < (i : Int) ∧ Pow p (Rat.divInt t b) := by
  have hb' : (0 : Rat) < (b : Rat) := Rat.intCast_pos.mpr hb
  have t1 : ((1 : Int) : Rat) ≤ ((t.natAbs : Int) : Rat) := Rat.intCast_le_intCast.mpr (by omega)
  have b1 : ((1 : Int) : Rat) ≤ (b : Rat) := Rat.intCast_le_intCast.mpr (by omega)
  have e1 : ((1 : Int) : Rat) = 1 := rfl
  rw [e1] at t1 b1
  have ht' := Rat.intCast_lt_intCast.mpr ht
  have hj' := Rat.intCast_le_intCast.mpr hj
  rw [← T10_nat] at ht' hj'
  have pj := T10_pos (j : Int)
  have pi := T10_pos (i : Int)
  have nj := T10_ne (j : Int)
  have lo : T10 (-(j : Int)) ≤ absQ (Rat.divInt t b) := by
    rw [absQ_div hb, T10_neg]
    refine le_div hb' ?_
    have q : 1 / T10 (j : Int) * (b : Rat) ≤ 1 := by
      have e : 1 / T10 (j : Int) * (b : Rat) = (b : Rat) / T10 (j : Int) := by grind
      rw [e]
      refine Rat.not_lt.mp fun q => ?_
      have := (Rat.lt_div_iff pj).mp q
      grind
    grind
  have hi : absQ (Rat.divInt t b) < T10 (-(j : Int) + ((i + j : Nat) : Int)) := by
    rw [absQ_div hb, show -(j : Int) + ((i + j : Nat) : Int) = (i : Int) by omega]
    refine (Rat.div_lt_iff hb').mpr ?_
    have := Rat.mul_le_mul_of_nonneg_left b1 (Rat.le_of_lt pi)
    grind
  obtain ⟨p, p1, p2, p3, p4⟩ := pow_step lo _ hi
  exact ⟨p, p1, by omega, p3, p4⟩
end My

namespace My
/-! ### the shortest figures that lead back -/
def nearL (u : Rat) : Int := if (partQ u).num = 0 then u.floor else if ((partQ u).den : Int) < 2 * (partQ u).num then u.floor + 1 else u.floor
theorem nearL_is (u : Rat) : (nearL u : Rat) - 1 / 2 < u ∧ u ≤ (nearL u : Rat) + 1 / 2 := by
  have a := Rat.floor_le u
  have b := Rat.lt_floor_add_one u
  rw [Rat.intCast_add] at b
  have e : partQ u = u - (u.floor : Rat) := rfl
  unfold nearL
  by_cases h : u = (u.floor : Rat)
  · rw [if_pos (part_zero.mpr h)]
    grind
  · rw [if_neg (fun z => h (part_zero.mp z))]
    have key : ((partQ u).den : Int) < 2 * (partQ u).num ↔ 1 / 2 < partQ u := by
      by_cases h1 : 1 / 2 < partQ u
      · have := nearerB_hi (a := false) h1
        unfold nearerB at this
        split at this
        · cases this
        · exact ⟨fun _ => h1, fun _ => of_decide_eq_true this⟩
      · refine ⟨fun z => ?_, fun z => absurd z h1⟩
        by_cases h2 : partQ u = 1 / 2
        · rw [h2] at z
          exact absurd z (by decide +kernel)
        · have := nearerB_lo (a := true) (show partQ u < 1 / 2 by grind)
          unfold nearerB at this
          split at this
          · cases this
          · exact absurd z (of_decide_eq_false this)
    by_cases h1 : 1 / 2 < partQ u
    · rw [if_pos (key.mpr h1), Rat.intCast_add]
      grind
    · rw [if_neg (fun z => h1 (key.mp z))]
      grind
theorem nearL_best (u : Rat) (c : Int) : absQ ((nearL u : Rat) - u) ≤ absQ ((c : Rat) - u) := by
  obtain ⟨a, b⟩ := nearL_is u
  generalize nearL u = t at *
  by_cases h : c = t
  · rw [h]; exact Rat.le_refl
  · rw [absQ_eq, absQ_eq]
    by_cases h2 : c < t
    · have : (c : Rat) + 1 ≤ (t : Rat) := by
        have := Rat.intCast_le_intCast.mpr (show c + 1 ≤ t by omega)
        rw [Rat.intCast_add] at this
        exact this
      split <;> split <;> grind
    · have : (t : Rat) + 1 ≤ (c : Rat) := by
        have := Rat.intCast_le_intCast.mpr (show t + 1 ≤ c by omega)
        rw [Rat.intCast_add] at this
        exact this
      split <;> split <;> grind
/-- how far the nearest of so many places is off -/
def dL (x : Rat) (p : Int) : Rat := absQ ((nearL (x * T10 p) : Rat) * T10 (-p) - x)
theorem T10_inv (p : Int) : T10 p * T10 (-p) = 1 := by rw [← T10_add, Int.add_right_neg]; exact T10_zero
theorem off_scale (x : Rat) (c : Rat) (p : Int) : absQ (c * T10 (-p) - x) = absQ (c - x * T10 p) * T10 (-p) := by
  rw [← absQ_mul_pos (T10_pos (-p))]
  have := T10_inv p
  congr 1
  grind
theorem dL_best (x : Rat) (p c : Int) : dL x p ≤ absQ ((c : Rat) * T10 (-p) - x) := by
  unfold dL
  rw [off_scale, off_scale]
  exact Rat.mul_le_mul_of_nonneg_right (nearL_best _ c) (Rat.le_of_lt (T10_pos _))
theorem dL_succ (x : Rat) (p : Int) : dL x (p + 1) ≤ dL x p := by
  have := dL_best x (p + 1) (nearL (x * T10 p) * 10)
  have e : ((nearL (x * T10 p) * 10 : Int) : Rat) * T10 (-(p + 1)) = (nearL (x * T10 p) : Rat) * T10 (-p) := by
    rw [Rat.intCast_mul, show -p = -(p + 1) + 1 by omega, T10_succ]
    have : ((10 : Int) : Rat) = 10 := rfl
    grind
  rw [e] at this
  exact this
theorem dL_mono_nat (x : Rat) (p : Int) : ∀ n : Nat, dL x (p + (n : Int)) ≤ dL x p
  | 0 => by rw [show p + ((0 : Nat) : Int) = p by omega]; exact Rat.le_refl
  | n + 1 => by
    rw [show p + ((n + 1 : Nat) : Int) = p + (n : Int) + 1 by omega]
    exact Rat.le_trans (dL_succ _ _) (dL_mono_nat x p n)
theorem dL_mono (x : Rat) {p q : Int} (h : p ≤ q) : dL x q ≤ dL x p := by
  have := dL_mono_nat x p (q - p).toNat
  rw [show p + ((q - p).toNat : Int) = q by omega] at this
  exact this
/-- so little off leads back to so many steps -/
def okd (y : Rat) (m : Int) (d : Rat) : Prop := d < y / 2 ∨ (d = y / 2 ∧ m % 2 = 0)
theorem okd.le {y : Rat} {m : Int} {d e : Rat} (h : okd y m d) (l : e ≤ d) : okd y m e := by
  unfold okd at *
  rcases h with h | ⟨h, z⟩
  · exact .inl (by grind)
  · by_cases g : e < y / 2
    · exact .inl g
    · exact .inr ⟨by grind, z⟩
theorem heven_iff {y z : Rat} {m : Int} (hy : 0 < y) : takenQ .heven (z / y) = m ↔ okd y m (absQ (z - (m : Rat) * y)) := by
  have e : absQ (z - (m : Rat) * y) = absQ (z / y - (m : Rat)) * y := by
    rw [← absQ_mul_pos hy]
    congr 1
    grind
  rw [e]
  generalize z / y = u
  have key : okd y m (absQ (u - (m : Rat)) * y) ↔ (absQ (u - (m : Rat)) < 1 / 2 ∨ (absQ (u - (m : Rat)) = 1 / 2 ∧ m % 2 = 0)) := by
    unfold okd
    generalize absQ (u - (m : Rat)) = d
    constructor
    · rintro (h | ⟨h, g⟩)
      · refine .inl (Rat.not_le.mp fun q => ?_)
        have := Rat.mul_le_mul_of_nonneg_right q (Rat.le_of_lt hy)
        grind
      · refine .inr ⟨?_, g⟩
        have : (d - 1 / 2) * y = 0 := by grind
        rcases Rat.mul_eq_zero.mp this with h | h
        · grind
        · grind
    · rintro (h | ⟨h, g⟩)
      · have := Rat.mul_lt_mul_of_pos_right h hy
        exact .inl (by grind)
      · exact .inr ⟨by rw [h]; grind, g⟩
  rw [key, absQ_eq]
  rcases near_or_mid u with ⟨t, h1, h2⟩ | ⟨l, hl⟩
  · rw [taken_near rfl h1 h2]
    constructor
    · rintro rfl
      left
      split <;> grind
    · intro h
      have hh : (if 0 ≤ u - (m : Rat) then u - (m : Rat) else -(u - (m : Rat))) ≤ 1 / 2 := by
        rcases h with h | ⟨h, _⟩
        · exact Rat.le_of_lt h
        · rw [h]; exact Rat.le_refl
      clear h key e
      have a : (m : Rat) < (t : Rat) + 1 := by split at hh <;> grind
      have b : (t : Rat) < (m : Rat) + 1 := by split at hh <;> grind
      have a' : m < t + 1 := Rat.intCast_lt_intCast.mp (by rw [Rat.intCast_add]; exact a)
      have b' : t < m + 1 := Rat.intCast_lt_intCast.mp (by rw [Rat.intCast_add]; exact b)
      omega
  · subst hl
    rw [taken_mid rfl]
    have tu : tieUp .heven l = decide (l % 2 = 1) := rfl
    rw [tu]
    constructor
    · intro h
      right
      by_cases z : l % 2 = 1
      · rw [if_pos (decide_eq_true z)] at h
        subst h
        rw [Rat.intCast_add]
        have : ((1 : Int) : Rat) = 1 := rfl
        refine ⟨by split <;> grind, by omega⟩
      · rw [if_neg (by simpa using z)] at h
        subst h
        refine ⟨by split <;> grind, by omega⟩
    · intro h
      have a : (m : Rat) < (l : Rat) + 2 := by split at h <;> grind
      have b : (l : Rat) < (m : Rat) + 1 := by split at h <;> grind
      have a' : m < l + 2 := Rat.intCast_lt_intCast.mp (by rw [Rat.intCast_add]; exact a)
      have b' : l < m + 1 := Rat.intCast_lt_intCast.mp (by rw [Rat.intCast_add]; exact b)
      have ev : m % 2 = 0 := by
        rcases h with h | h
        · exfalso
          have c : m = l ∨ m = l + 1 := by omega
          rcases c with rfl | rfl
          · split at h <;> grind
          · rw [Rat.intCast_add] at h
            have : ((1 : Int) : Rat) = 1 := rfl
            split at h <;> grind
        · exact h.2
      by_cases z : l % 2 = 1
      · rw [if_pos (decide_eq_true z)]; omega
      · rw [if_neg (by simpa using z)]; omega
/-- a count of so many places is rounded to the kept number -/
def backQ (c p : Int) (x y : Rat) : Bool := decide (y * (takenQ .heven ((c : Rat) * T10 (-p) / y) : Rat) = x)
theorem backQ_iff {c p m : Int} {x y : Rat} (hy : 0 < y) (hx : x = (m : Rat) * y) : backQ c p x y = true ↔ okd y m (absQ ((c : Rat) * T10 (-p) - x)) := by
  unfold backQ
  rw [decide_eq_true_eq]
  conv => rhs; rw [hx]
  rw [← heven_iff hy, hx]
  constructor
  · intro h
    have : ((takenQ .heven ((c : Rat) * T10 (-p) / y) : Rat) - (m : Rat)) * y = 0 := by grind
    rcases Rat.mul_eq_zero.mp this with h | h
    · exact Rat.intCast_inj.mp (by grind)
    · grind
  · intro h
    rw [h]; grind
/-- the nearest one leads back -/
def lbQ (x y : Rat) (p : Int) : Bool := backQ (nearL (x * T10 p)) p x y
theorem lbQ_iff {p m : Int} {x y : Rat} (hy : 0 < y) (hx : x = (m : Rat) * y) : lbQ x y p = true ↔ okd y m (dL x p) := backQ_iff hy hx
theorem lb_of_back {c p m : Int} {x y : Rat} (hy : 0 < y) (hx : x = (m : Rat) * y) (h : backQ c p x y = true) : lbQ x y p = true :=
  (lbQ_iff hy hx).mpr (((backQ_iff hy hx).mp h).le (dL_best _ _ _))
theorem lb_mono {p q m : Int} {x y : Rat} (hy : 0 < y) (hx : x = (m : Rat) * y) (l : p ≤ q) (h : lbQ x y p = true) : lbQ x y q = true :=
  (lbQ_iff hy hx).mpr (((lbQ_iff hy hx).mp h).le (dL_mono _ l))
/-- so fine a last place leads back -/
theorem lb_fine {p m : Int} {x y : Rat} (hy : 0 < y) (hx : x = (m : Rat) * y) (h : T10 (-p) ≤ y) : lbQ x y p = true := by
  rw [lbQ_iff hy hx]
  have d1 : dL x p ≤ T10 (-p) / 2 := by
    unfold dL
    rw [off_scale]
    obtain ⟨a, b⟩ := nearL_is (x * T10 p)
    have : absQ ((nearL (x * T10 p) : Rat) - x * T10 p) ≤ 1 / 2 := by
      rw [absQ_eq]
      split <;> grind
    have := Rat.mul_le_mul_of_nonneg_right this (Rat.le_of_lt (T10_pos (-p)))
    grind
  by_cases g : T10 (-p) = y
  · have : dL x p ≤ 0 := by
      have b := dL_best x p m
      have e : (m : Rat) * T10 (-p) - x = 0 := by rw [g]; grind
      rw [e, absQ_eq, if_pos (by decide +kernel)] at b
      exact b
    exact .inl (by grind)
  · exact .inl (by grind)
theorem lb_power {p m : Int} {x y : Rat} (hy : 0 < y) (hx : x = (m : Rat) * y) (h : Pow p y) : lbQ x y (if 0 < -p then -p else 0) = true := by
  have h1 := h.1
  rw [absQ_eq, if_pos (Rat.le_of_lt hy)] at h1
  refine lb_fine hy hx ?_
  split
  · rw [Int.neg_neg]; exact h1
  · exact Rat.le_trans (T10_le (by omega)) h1
/-- as few places as can be -/
def Fewest (x y : Rat) (P : Int) : Prop := 0 ≤ P ∧ lbQ x y P = true ∧ ∀ p, 0 ≤ p → p < P → lbQ x y p = false
theorem Fewest.le {x y : Rat} {P p m c : Int} (h : Fewest x y P) (hy : 0 < y) (hx : x = (m : Rat) * y) (hp : 0 ≤ p) (b : backQ c p x y = true) : P ≤ p := by
  by_cases z : P ≤ p
  · exact z
  · have := h.2.2 p hp (by omega)
    rw [lb_of_back hy hx b] at this
    cases this
end My

namespace My
/-! ### what is due, told by whole numbers -/
theorem taken_of {r : Way} {i p0 p1 : Int} (h0 : 0 < p0) (h1 : p0 < p1) : takenQ r ((i : Rat) + Rat.divInt p0 p1) = if ruleB r i (Rat.divInt p0 p1) = true then i + 1 else i := by
  have a : (0 : Rat) < (p0 : Rat) := Rat.intCast_pos.mpr h0
  have b : (p0 : Rat) < (p1 : Rat) := Rat.intCast_lt_intCast.mpr h1
  have q : (0 : Rat) < (p1 : Rat) := by grind
  refine taken_add ?_ ?_
  · rw [Rat.divInt_eq_div]
    exact (Rat.lt_div_iff q).mpr (by grind)
  · rw [Rat.divInt_eq_div]
    exact (Rat.div_lt_iff q).mpr (by grind)
theorem nearer_div {p0 p1 : Int} (h0 : 0 < p0) (h1 : p0 < p1) (a : Bool) : nearerB (Rat.divInt p0 p1) a = if 2 * p0 = p1 then a else decide (p1 < 2 * p0) := by
  have q : (0 : Rat) < (p1 : Rat) := Rat.intCast_pos.mpr (by omega)
  have e2 : ((2 * p0 : Int) : Rat) = 2 * (p0 : Rat) := by rw [Rat.intCast_mul]; rfl
  rw [Rat.divInt_eq_div]
  by_cases z : 2 * p0 = p1
  · have p2 : (p1 : Rat) = 2 * (p0 : Rat) := by rw [← z]; exact e2
    have : (p0 : Rat) / (p1 : Rat) = 1 / 2 := by rw [p2]; rw [p2] at q; grind
    rw [if_pos z, this, nearerB_mid]
  · rw [if_neg z]
    by_cases y : p1 < 2 * p0
    · have : (p1 : Rat) < 2 * (p0 : Rat) := by rw [← e2]; exact Rat.intCast_lt_intCast.mpr y
      rw [decide_eq_true y, nearerB_hi ((Rat.lt_div_iff q).mpr (by grind))]
    · have : 2 * (p0 : Rat) < (p1 : Rat) := by rw [← e2]; exact Rat.intCast_lt_intCast.mpr (by omega)
      rw [decide_eq_false y, nearerB_lo ((Rat.div_lt_iff q).mpr (by grind))]
/-- the number of steps, as a whole and a part of one -/
theorem steps_split {t b c d : Int} (hb : 0 < b) (hc : 0 < c) (hd : 0 < d) : Rat.divInt t b / Rat.divInt c d = ((t * d / (b * c) : Int) : Rat) + Rat.divInt (t * d - t * d / (b * c) * (b * c)) (b * c) := by
  have hb' : (b : Rat) ≠ 0 := by simp; omega
  have hc' : (c : Rat) ≠ 0 := by simp; omega
  have hd' : (d : Rat) ≠ 0 := by simp; omega
  have e1 : Rat.divInt t b / Rat.divInt c d = ((t * d : Int) : Rat) / ((b * c : Int) : Rat) := by
    rw [Rat.divInt_eq_div, Rat.divInt_eq_div, Rat.intCast_mul, Rat.intCast_mul]
    grind
  have hB : ((b * c : Int) : Rat) ≠ 0 := by rw [Rat.intCast_mul]; grind
  rw [e1, Rat.divInt_eq_div, Rat.intCast_sub, Rat.intCast_mul (t * d / (b * c))]
  generalize ((t * d : Int) : Rat) = x at *
  generalize ((b * c : Int) : Rat) = y at *
  generalize ((t * d / (b * c) : Int) : Rat) = z at *
  grind
end My

namespace My
/-! ### the order of the parts beyond: the greater ones first, of alike ones the earlier ones -/
def bef (F : Nat → Rat) (i j : Nat) : Prop := F j < F i ∨ (F i = F j ∧ i < j)
instance (F : Nat → Rat) (i j : Nat) : Decidable (bef F i j) := by unfold bef; infer_instance
theorem bef_total {F : Nat → Rat} {i j : Nat} (h : i ≠ j) : bef F i j ∨ bef F j i := by
  unfold bef
  by_cases a : F j < F i
  · exact .inl (.inl a)
  · by_cases b : F i < F j
    · exact .inr (.inl b)
    · have e : F i = F j := Rat.le_antisymm (Rat.not_lt.mp a) (Rat.not_lt.mp b)
      by_cases l : i < j
      · exact .inl (.inr ⟨e, l⟩)
      · exact .inr (.inr ⟨e.symm, by omega⟩)
theorem bef_irr {F : Nat → Rat} {i : Nat} : ¬ bef F i i := by
  rintro (h | ⟨_, h⟩)
  · exact Rat.lt_irrefl h
  · omega
theorem bef_asym {F : Nat → Rat} {i j : Nat} (h : bef F i j) : ¬ bef F j i := by
  unfold bef at *
  rintro (g | ⟨g, l⟩)
  · rcases h with h | ⟨h, _⟩
    · exact absurd g (by grind)
    · exact absurd g (by grind)
  · rcases h with h | ⟨_, l2⟩
    · exact absurd h (by grind)
    · omega
theorem bef_trans {F : Nat → Rat} {i j k : Nat} (h : bef F i j) (g : bef F j k) : bef F i k := by
  unfold bef at *
  rcases h with h | ⟨h, l⟩ <;> rcases g with g | ⟨g, m⟩
  · exact .inl (by grind)
  · exact .inl (by grind)
  · exact .inl (by grind)
  · exact .inr ⟨by grind, by omega⟩
def rank (F : Nat → Rat) (n i : Nat) : Nat := ((List.range n).filter fun j => decide (bef F j i)).length
/-- a list of the places below n, in order -/
structure Ord (F : Nat → Rat) (n : Nat) (l : List Nat) : Prop where
  perm : l.Perm (List.range n)
  srt : l.Pairwise fun a b => ¬ bef F b a
theorem Ord.len {F : Nat → Rat} {n : Nat} {l : List Nat} (o : Ord F n l) : l.length = n := by rw [o.perm.length_eq, List.length_range]
theorem Ord.nodup {F : Nat → Rat} {n : Nat} {l : List Nat} (o : Ord F n l) : l.Nodup := o.perm.nodup_iff.mpr List.nodup_range
theorem Ord.mem {F : Nat → Rat} {n : Nat} {l : List Nat} (o : Ord F n l) {i : Nat} : i ∈ l ↔ i < n := by rw [o.perm.mem_iff, List.mem_range]
theorem filter_split {F : Nat → Rat} {x : Nat} : ∀ (A B : List Nat), (A ++ x :: B).Pairwise (fun a b => ¬ bef F b a) → (A ++ x :: B).Nodup → ((A ++ x :: B).filter fun j => decide (bef F j x)) = A := fun A B h nd => by
  have h1 := (List.pairwise_append.mp h).2.2
  have h2 := (List.pairwise_cons.mp (List.pairwise_append.mp h).2.1).1
  have nd1 := List.nodup_append.mp nd
  rw [List.filter_append, List.filter_cons, if_neg (by simpa using bef_irr)]
  have e1 : A.filter (fun j => decide (bef F j x)) = A := List.filter_eq_self.mpr fun a ha => by
    have n1 := h1 a ha x (List.mem_cons_self ..)
    have ne : a ≠ x := nd1.2.2 a ha x (List.mem_cons_self ..)
    exact decide_eq_true ((bef_total ne).resolve_right n1)
  have e2 : B.filter (fun j => decide (bef F j x)) = [] := List.filter_eq_nil_iff.mpr fun b hb => by
    simpa using h2 b hb
  rw [e1, e2, List.append_nil]
theorem Ord.rank_at {F : Nat → Rat} {n : Nat} {l : List Nat} (o : Ord F n l) {p : Nat} (h : p < l.length) : rank F n l[p] = p := by
  have e : l = l.take p ++ l[p] :: l.drop (p + 1) := by
    rw [List.getElem_cons_drop, List.take_append_drop]
  have pf : ((List.range n).filter fun j => decide (bef F j l[p])).length = (l.filter fun j => decide (bef F j l[p])).length := (o.perm.filter _).length_eq.symm
  unfold rank
  rw [pf]
  have s := o.srt
  have nd := o.nodup
  generalize l[p] = x at *
  generalize hA : l.take p = A at *
  have la : A.length = p := by rw [← hA, List.length_take]; omega
  rw [e] at s nd ⊢
  rw [filter_split _ _ s nd, la]
theorem Ord.take_iff {F : Nat → Rat} {n : Nat} {l : List Nat} (o : Ord F n l) {i k : Nat} (hi : i < n) : i ∈ l.take k ↔ rank F n i < k := by
  constructor
  · intro h
    obtain ⟨p, hp, e⟩ := List.mem_iff_getElem.mp h
    rw [List.length_take] at hp
    rw [List.getElem_take] at e
    have := o.rank_at (p := p) (by omega)
    rw [e] at this
    omega
  · intro h
    obtain ⟨p, hp, e⟩ := List.mem_iff_getElem.mp (o.mem.mpr hi)
    have := o.rank_at hp
    rw [e] at this
    rw [this] at h
    exact List.mem_iff_getElem.mpr ⟨p, by rw [List.length_take]; omega, by rw [List.getElem_take]; exact e⟩
/-- there is such a list -/
theorem ord_there (F : Nat → Rat) (n : Nat) : ∃ l, Ord F n l := by
  refine ⟨(List.range n).mergeSort fun a b => decide (¬ bef F b a), List.mergeSort_perm _ _, ?_⟩
  have := List.pairwise_mergeSort (le := fun a b => decide (¬ bef F b a)) (fun a b c h1 h2 => by
    have h1' : ¬ bef F b a := of_decide_eq_true h1
    have h2' : ¬ bef F c b := of_decide_eq_true h2
    refine decide_eq_true fun h => ?_
    by_cases e : b = c
    · subst e; exact h1' h
    · rcases bef_total e with g | g
      · exact h1' (bef_trans g h)
      · exact h2' g) (fun a b => by
    by_cases h : bef F b a
    · have := bef_asym h
      simp [this]
    · simp [h]) (List.range n)
  exact this.imp fun h => of_decide_eq_true h
theorem rank_lt {F : Nat → Rat} {n i j : Nat} (hi : i < n) (hj : j < n) : rank F n i < rank F n j ↔ bef F i j := by
  obtain ⟨l, o⟩ := ord_there F n
  obtain ⟨p, hp, rfl⟩ := List.mem_iff_getElem.mp (o.mem.mpr hi)
  obtain ⟨q, hq, rfl⟩ := List.mem_iff_getElem.mp (o.mem.mpr hj)
  rw [o.rank_at hp, o.rank_at hq]
  have pw := List.pairwise_iff_getElem.mp o.srt
  constructor
  · intro h
    have ne : l[p] ≠ l[q] := fun e => by
      have := (List.getElem_inj o.nodup).mp e
      omega
    exact (bef_total ne).resolve_right (pw p q hp hq h)
  · intro h
    rcases Nat.lt_trichotomy p q with z | z | z
    · exact z
    · subst z; exact absurd h bef_irr
    · exact absurd h (pw q p hq hp z)
theorem rank_inj {F : Nat → Rat} {n i j : Nat} (hi : i < n) (hj : j < n) (h : rank F n i = rank F n j) : i = j := by
  by_cases e : i = j
  · exact e
  · rcases bef_total (F := F) e with g | g
    · have := (rank_lt hi hj).mpr g; omega
    · have := (rank_lt hj hi).mpr g; omega
theorem rank_bd {F : Nat → Rat} {n i : Nat} (hi : i < n) : rank F n i < n := by
  obtain ⟨l, o⟩ := ord_there F n
  obtain ⟨p, hp, rfl⟩ := List.mem_iff_getElem.mp (o.mem.mpr hi)
  rw [o.rank_at hp]
  have := o.len
  omega
theorem rank_there (F : Nat → Rat) {n t : Nat} (h : t < n) : ∃ i, i < n ∧ rank F n i = t := by
  obtain ⟨l, o⟩ := ord_there F n
  have hl : t < l.length := by rw [o.len]; exact h
  exact ⟨l[t], o.mem.mp (List.getElem_mem hl), o.rank_at hl⟩
/-- how many stand ahead of the k-th -/
theorem rank_count (F : Nat → Rat) {n k : Nat} (h : k ≤ n) : ((List.range n).filter fun i => decide (rank F n i < k)).length = k := by
  obtain ⟨l, o⟩ := ord_there F n
  have e1 : ((List.range n).filter fun i => decide (rank F n i < k)).length = (l.filter fun i => decide (rank F n i < k)).length := ((o.perm.filter _).length_eq).symm
  have e2 : l.filter (fun i => decide (rank F n i < k)) = l.take k := by
    conv => lhs; rw [← List.take_append_drop k l]
    rw [List.filter_append]
    have a : (l.take k).filter (fun i => decide (rank F n i < k)) = l.take k := List.filter_eq_self.mpr fun i hi => decide_eq_true ((o.take_iff (o.mem.mp (List.mem_of_mem_take hi))).mp hi)
    have b : (l.drop k).filter (fun i => decide (rank F n i < k)) = [] := List.filter_eq_nil_iff.mpr fun i hi => by
      obtain ⟨p, hp, rfl⟩ := List.mem_iff_getElem.mp hi
      rw [List.length_drop] at hp
      rw [List.getElem_drop, o.rank_at (by omega)]
      simp
    rw [a, b, List.append_nil]
  rw [e1, e2, List.length_take, o.len]
  omega
/-- the first one of what is left -/
theorem best_rank {F : Nat → Rat} {n t b : Nat} (ht : t < n) (hb : b < n) (r : t ≤ rank F n b) (h : ∀ i, i < n → t ≤ rank F n i → ¬ bef F i b) : rank F n b = t := by
  obtain ⟨i, hi, ri⟩ := rank_there F ht
  refine Classical.byContradiction fun z => ?_
  exact h i hi (by omega) ((rank_lt hi hb).mp (by omega))
/-- those that are no multiples stand ahead of all others -/
theorem zero_rank {F : Nat → Rat} {n i : Nat} (hi : i < n) (pos : ∀ j, 0 ≤ F j) (z : F i = 0) : ((List.range n).filter fun j => decide (0 < F j)).length ≤ rank F n i := by
  unfold rank
  refine List.Sublist.length_le ?_
  have : (List.range n).filter (fun j => decide (0 < F j)) = ((List.range n).filter fun j => decide (bef F j i)).filter fun j => decide (0 < F j) := by
    rw [List.filter_filter]
    refine List.filter_congr fun j _ => ?_
    by_cases h : 0 < F j
    · have : bef F j i := .inl (by rw [z]; exact h)
      simp [h, this]
    · simp [h]
  rw [this]
  exact List.filter_sublist
end My

namespace My
/-! ### the counts that are due, and their paper -/
theorem part_ge (u : Rat) : 0 ≤ partQ u := by
  have := Rat.floor_le u
  unfold partQ
  grind
theorem part_lt (u : Rat) : partQ u < 1 := by
  have : u.floor < u.floor + 1 := by omega
  have := Rat.floor_lt_iff.mp this
  rw [Rat.intCast_add] at this
  unfold partQ
  grind
theorem divInt_ge0 {a b : Int} (ha : 0 ≤ a) (hb : 0 < b) : 0 ≤ Rat.divInt a b := by
  have e := Rat.divInt_nonneg_iff_of_pos_right (a := a) hb
  exact e.mpr ha
theorem divInt_mul {a b : Int} (hb : 0 < b) : Rat.divInt a b * (b : Rat) = (a : Rat) := by
  rw [Rat.divInt_eq_div]
  have : (b : Rat) ≠ 0 := by
    intro z
    have := Rat.intCast_eq_zero_iff.mp z
    omega
  grind
theorem ratpos {b : Int} (hb : 0 < b) : (0 : Rat) < (b : Rat) := by
  have := (Rat.intCast_lt_intCast (a := 0) (b := b)).mpr hb
  exact this
theorem lt_cross {a b c d : Int} (hb : 0 < b) (hd : 0 < d) : Rat.divInt a b < Rat.divInt c d ↔ a * d < c * b := by
  have e1 := divInt_mul (a := a) hb
  have e2 := divInt_mul (a := c) hd
  have pb := ratpos hb
  have pd := ratpos hd
  have key : (((a * d : Int)) : Rat) = Rat.divInt a b * ((b : Rat) * (d : Rat)) := by rw [Rat.intCast_mul, ← e1]; grind
  have key2 : (((c * b : Int)) : Rat) = Rat.divInt c d * ((b : Rat) * (d : Rat)) := by rw [Rat.intCast_mul, ← e2]; grind
  have pbd : 0 < (b : Rat) * (d : Rat) := Rat.mul_pos pb pd
  rw [← Rat.intCast_lt_intCast, key, key2]
  exact ⟨fun h => Rat.mul_lt_mul_of_pos_right h pbd, fun h => Classical.byContradiction fun z => by
    have := Rat.mul_le_mul_of_nonneg_right (Rat.not_lt.mp z) (Rat.le_of_lt pbd)
    grind⟩
theorem eq_cross {a b c d : Int} (hb : 0 < b) (hd : 0 < d) : Rat.divInt a b = Rat.divInt c d ↔ a * d = c * b := by
  have l1 := lt_cross (a := a) (c := c) hb hd
  have l2 := lt_cross (a := c) (c := a) hd hb
  constructor
  · intro h
    have n1 : ¬ a * d < c * b := fun z => by have := l1.mpr z; rw [h] at this; exact Rat.lt_irrefl this
    have n2 : ¬ c * b < a * d := fun z => by have := l2.mpr z; rw [h] at this; exact Rat.lt_irrefl this
    omega
  · intro h
    have n1 : ¬ Rat.divInt a b < Rat.divInt c d := fun z => by have := l1.mp z; omega
    have n2 : ¬ Rat.divInt c d < Rat.divInt a b := fun z => by have := l2.mp z; omega
    exact Rat.le_antisymm (Rat.not_lt.mp n2) (Rat.not_lt.mp n1)
theorem one_div : Rat.divInt 1 1 = 1 := by decide +kernel
theorem split_div {a b : Int} (hb : 0 < b) : Rat.divInt a b = ((a / b : Int) : Rat) + Rat.divInt (a % b) b := by
  have pb := ratpos hb
  have nb : (b : Rat) ≠ 0 := by grind
  have e := Int.mul_ediv_add_emod a b
  have e3 : (a : Rat) = (b : Rat) * ((a / b : Int) : Rat) + ((a % b : Int) : Rat) := by
    rw [← Rat.intCast_mul, ← Rat.intCast_add, e]
  rw [Rat.divInt_eq_div, Rat.divInt_eq_div]
  generalize (a / b) = f at *
  generalize (a % b) = r at *
  generalize (a : Rat) = ar at *
  grind
theorem rest_lt {a b : Int} (hb : 0 < b) : Rat.divInt (a % b) b < 1 := by
  have h := (lt_cross (a := a % b) (b := b) (c := 1) (d := 1) hb (by decide)).mpr (by have := Int.emod_lt_of_pos a hb; omega)
  rw [one_div] at h
  exact h
theorem floor_div {a b : Int} (hb : 0 < b) : (Rat.divInt a b).floor = a / b := by
  rw [split_div hb]
  exact floor_add (divInt_ge0 (Int.emod_nonneg _ (by omega)) hb) (rest_lt hb)
theorem part_div {a b : Int} (hb : 0 < b) : partQ (Rat.divInt a b) = Rat.divInt (a % b) b := by
  rw [split_div hb]
  exact part_add (divInt_ge0 (Int.emod_nonneg _ (by omega)) hb) (rest_lt hb)
theorem div_zero_iff {a b : Int} (hb : 0 < b) : Rat.divInt a b = 0 ↔ a = 0 := by
  have h := eq_cross (a := a) (b := b) (c := 0) (d := 1) hb (by decide)
  have z : Rat.divInt 0 1 = 0 := by decide +kernel
  rw [z] at h
  rw [h]
  omega
theorem div_pos_iff {a b : Int} (hb : 0 < b) : 0 < Rat.divInt a b ↔ 0 < a := by
  have h := lt_cross (a := 0) (b := 1) (c := a) (d := b) (by decide) hb
  have z : Rat.divInt 0 1 = 0 := by decide +kernel
  rw [z] at h
  rw [h]
  omega
theorem half_cross {a b : Int} (hb : 0 < b) : (2 * (Rat.divInt a b).num = ((Rat.divInt a b).den : Int) ↔ 2 * a = b) ∧ (((Rat.divInt a b).den : Int) < 2 * (Rat.divInt a b).num ↔ b < 2 * a) := by
  have d0 : (0 : Int) < ((Rat.divInt a b).den : Int) := by have := (Rat.divInt a b).den_pos; omega
  have e : Rat.divInt (Rat.divInt a b).num ((Rat.divInt a b).den : Int) = Rat.divInt a b := Rat.num_divInt_den _
  have h1 := eq_cross (a := (Rat.divInt a b).num) (c := 1) (d := 2) d0 (by decide)
  have h2 := eq_cross (a := a) (c := 1) (d := 2) hb (by decide)
  have h3 := lt_cross (a := 1) (b := 2) (c := (Rat.divInt a b).num) (by decide) d0
  have h4 := lt_cross (a := 1) (b := 2) (c := a) (d := b) (by decide) hb
  rw [e] at h1 h3
  rw [h1] at h2
  rw [h3] at h4
  omega
theorem part_zeroD {a b : Int} (hb : 0 < b) : (partQ (Rat.divInt a b)).num = 0 ↔ a % b = 0 := by
  rw [part_div hb, Rat.num_eq_zero, div_zero_iff hb]
/-- half to even, as whole numbers tell it -/
theorem even_div {a b : Int} (hb : 0 < b) : takenQ .heven (Rat.divInt a b) = a / b + (if b < 2 * (a % b) ∨ (2 * (a % b) = b ∧ (a / b) % 2 = 1) then 1 else 0) := by
  unfold takenQ
  have z := part_zeroD (a := a) hb
  have h := half_cross (a := a % b) hb
  rw [floor_div hb]
  by_cases e : a % b = 0
  · rw [if_pos (z.mpr e), if_neg (by omega)]
    omega
  · rw [if_neg (fun w => e (z.mp w)), part_div hb]
    show (if nearerB (Rat.divInt (a % b) b) (decide ((a / b) % 2 = 1)) = true then _ else _) = _
    unfold nearerB
    by_cases t : 2 * (a % b) = b
    · rw [if_pos (h.1.mpr t)]
      by_cases o : (a / b) % 2 = 1
      · rw [if_pos (decide_eq_true o), if_pos (.inr ⟨t, o⟩)]
      · rw [if_neg (by simp [o]), if_neg (by omega)]; omega
    · rw [if_neg (fun w => t (h.1.mp w))]
      by_cases o : b < 2 * (a % b)
      · rw [if_pos (decide_eq_true (h.2.mpr o)), if_pos (.inl o)]
      · rw [if_neg (by simpa using fun w => o (h.2.mp w)), if_neg (by omega)]; omega
def sumQ : List Rat → Rat
  | [] => 0
  | x :: xs => x + sumQ xs
def FQ (us : List Rat) (i : Nat) : Rat := (us.map partQ).getD i 0
def sumF (us : List Rat) : Int := (us.map Rat.floor).sum
/-- how many parts go up -/
def kQ (us : List Rat) : Nat := (takenQ .heven (sumQ us) - sumF us).toNat
def fl (us : List Rat) (i : Nat) : Int := (us.map Rat.floor).getD i 0
def cntQ (us : List Rat) : List Int := (List.range us.length).map fun i => if rank (FQ us) us.length i < kQ us then fl us i + 1 else fl us i
theorem taken_le_of {r : Way} {x : Rat} {n : Int} (h : x ≤ (n : Rat)) : takenQ r x ≤ n := by
  have f := Rat.floor_le x
  unfold takenQ
  split
  · exact Rat.intCast_le_intCast.mp (by grind)
  · rename_i z
    have p : 0 < partQ x := by
      have := part_ge x
      have : partQ x ≠ 0 := fun w => z (by rw [w]; rfl)
      grind
    have : x.floor < n := Rat.intCast_lt_intCast.mp (by unfold partQ at p; grind)
    split <;> omega
theorem sum_parts : ∀ us : List Rat, sumQ us = ((sumF us : Int) : Rat) + sumQ (us.map partQ)
  | [] => by show (0 : Rat) = ((0 : Int) : Rat) + 0; decide +kernel
  | u :: us => by
    have ih := sum_parts us
    have e : sumF (u :: us) = u.floor + sumF us := by unfold sumF; rw [List.map_cons, List.sum_cons]
    rw [e, Rat.intCast_add]
    show u + sumQ us = _ + (partQ u + sumQ (us.map partQ))
    rw [ih]
    unfold partQ
    grind
theorem FQ_succ (u : Rat) (us : List Rat) (i : Nat) : FQ (u :: us) (i + 1) = FQ us i := by unfold FQ; rw [List.map_cons, List.getD_cons_succ]
theorem FQ_zero (u : Rat) (us : List Rat) : FQ (u :: us) 0 = partQ u := by unfold FQ; rw [List.map_cons, List.getD_cons_zero]
theorem parts_le : ∀ us : List Rat, sumQ (us.map partQ) ≤ ((((List.range us.length).filter fun j => decide (0 < FQ us j)).length : Int) : Rat)
  | [] => by show (0 : Rat) ≤ ((0 : Int) : Rat); decide +kernel
  | u :: us => by
    have ih := parts_le us
    rw [List.length_cons, List.range_succ_eq_map, List.filter_cons, FQ_zero, List.filter_map]
    have e : ((fun j => decide (0 < FQ (u :: us) j)) ∘ Nat.succ) = fun j => decide (0 < FQ us j) := by
      funext j
      show decide (0 < FQ (u :: us) (j + 1)) = _
      rw [FQ_succ]
    rw [e]
    show partQ u + sumQ (us.map partQ) ≤ _
    have g := part_ge u
    have l := part_lt u
    generalize ((List.range us.length).filter fun j => decide (0 < FQ us j)) = m at *
    by_cases p : 0 < partQ u
    · rw [if_pos (decide_eq_true p), List.length_cons, List.length_map, Int.natCast_add, Rat.intCast_add]
      show _ ≤ _ + (1 : Rat)
      grind
    · rw [if_neg (by rw [decide_eq_true_eq]; exact p), List.length_map]
      grind
theorem k_left {us : List Rat} : (kQ us : Int) = takenQ .heven (sumQ us) - sumF us := by
  have a := sum_parts us
  have c : (0 : Rat) ≤ sumQ (us.map partQ) := by
    clear a
    induction us with
    | nil => exact Rat.le_refl
    | cons u us ih =>
      have := part_ge u
      show 0 ≤ partQ u + sumQ (us.map partQ)
      grind
  have d : sumF us ≤ (sumQ us).floor := Rat.le_floor_iff.mpr (by rw [a]; grind)
  have e : (sumQ us).floor ≤ takenQ .heven (sumQ us) := by
    unfold takenQ
    split
    · exact Int.le_refl _
    · split <;> omega
  unfold kQ
  omega
/-- none goes up but one that is no multiple -/
theorem k_le (us : List Rat) : kQ us ≤ ((List.range us.length).filter fun j => decide (0 < FQ us j)).length := by
  have a := sum_parts us
  have b := parts_le us
  have c : takenQ .heven (sumQ us) ≤ sumF us + (((List.range us.length).filter fun j => decide (0 < FQ us j)).length : Int) := taken_le_of (by rw [a, Rat.intCast_add]; grind)
  have d := k_left (us := us)
  omega
theorem FQ_ge (us : List Rat) (i : Nat) : 0 ≤ FQ us i := by
  unfold FQ
  rw [List.getD_eq_getElem?_getD, List.getElem?_map]
  cases us[i]? with
  | none => exact Rat.le_refl
  | some u => exact part_ge u
theorem FQ_lt (us : List Rat) (i : Nat) : FQ us i < 1 := by
  unfold FQ
  rw [List.getD_eq_getElem?_getD, List.getElem?_map]
  cases us[i]? with
  | none => show (0 : Rat) < 1; decide +kernel
  | some u => exact part_lt u
theorem up_pos {us : List Rat} {i : Nat} (hi : i < us.length) (h : rank (FQ us) us.length i < kQ us) : 0 < FQ us i := by
  have g := FQ_ge us i
  refine Classical.byContradiction fun z => ?_
  have z0 : FQ us i = 0 := by grind
  have := zero_rank hi (FQ_ge us) z0
  have := k_le us
  omega
theorem k_len (us : List Rat) : kQ us ≤ us.length := Nat.le_trans (k_le us) (by
  have := List.length_filter_le (fun j => decide (0 < FQ us j)) (List.range us.length)
  rw [List.length_range] at this
  exact this)
theorem sum_if (f : Nat → Int) (p : Nat → Bool) : ∀ l : List Nat, (l.map fun i => if p i = true then f i + 1 else f i).sum = (l.map f).sum + ((l.filter p).length : Int)
  | [] => rfl
  | i :: l => by
    rw [List.map_cons, List.sum_cons, List.map_cons, List.sum_cons, sum_if f p l, List.filter_cons]
    by_cases h : p i = true
    · rw [if_pos h, if_pos h, List.length_cons]; omega
    · rw [if_neg h, if_neg h]; omega
theorem fl_map (us : List Rat) : (List.range us.length).map (fl us) = us.map Rat.floor := by
  refine List.ext_getElem? fun i => ?_
  rw [List.getElem?_map, List.getElem?_map]
  by_cases h : i < us.length
  · rw [List.getElem?_range h]
    unfold fl
    rw [List.getElem?_eq_getElem h]
    simp [h]
  · rw [List.getElem?_eq_none (by rw [List.length_range]; omega), List.getElem?_eq_none (by omega)]
    rfl
/-- together the steps of the sum -/
theorem cnt_sum (us : List Rat) : (cntQ us).sum = takenQ .heven (sumQ us) := by
  have e : cntQ us = (List.range us.length).map fun i => if decide (rank (FQ us) us.length i < kQ us) = true then fl us i + 1 else fl us i := by
    unfold cntQ
    refine List.map_congr_left fun i _ => ?_
    by_cases h : rank (FQ us) us.length i < kQ us
    · rw [if_pos h, if_pos (decide_eq_true h)]
    · rw [if_neg h, if_neg (by simpa using h)]
  rw [e, sum_if (fl us) (fun i => decide (rank (FQ us) us.length i < kQ us)), fl_map, rank_count (FQ us) (k_len us)]
  have := k_left (us := us)
  unfold sumF at this
  omega
/-- what a paper is -/
structure PapOk (us : List Rat) (w : Rat) : Prop where
  lo : 0 ≤ w
  hi : w ≤ 1
  up : ∀ i, i < us.length → rank (FQ us) us.length i < kQ us → w ≤ FQ us i
  dn : ∀ i, i < us.length → ¬ rank (FQ us) us.length i < kQ us → FQ us i ≤ w
theorem pap_ok {us : List Rat} {L : List Nat} {w : Rat} (o : Ord (FQ us) us.length L) (h : w = match (L.take (kQ us)).getLast? with | none => 1 | some i => FQ us i) : PapOk us w := by
  have kl := k_len us
  have ll := o.len
  by_cases k0 : kQ us = 0
  · rw [k0, List.take_zero] at h
    have h' : w = 1 := h
    subst h'
    refine ⟨by decide +kernel, Rat.le_refl, fun i _ z => by omega, fun i _ _ => Rat.le_of_lt (FQ_lt us i)⟩
  · have lt : kQ us - 1 < L.length := by omega
    have e : (L.take (kQ us)).getLast? = some L[kQ us - 1] := by
      rw [List.getLast?_eq_getElem?, List.length_take, List.getElem?_take, Nat.min_eq_left (by omega), if_pos (by omega), List.getElem?_eq_getElem lt]
    rw [e] at h
    have h' : w = FQ us L[kQ us - 1] := h
    have r := o.rank_at lt
    have m := o.mem.mp (List.getElem_mem lt)
    subst h'
    refine ⟨FQ_ge us _, Rat.le_of_lt (FQ_lt us _), fun i hi z => ?_, fun i hi z => ?_⟩
    · refine Rat.not_lt.mp fun c => ?_
      have := (rank_lt m hi).mpr (.inl c)
      omega
    · refine Rat.not_lt.mp fun c => ?_
      have := (rank_lt hi m).mpr (.inl c)
      omega
theorem told_cnt {us : List Rat} {L : List Nat} (o : Ord (FQ us) us.length L) : (List.range us.length).map (fun i => if i ∈ L.take (kQ us) then (us.map Rat.floor).getD i 0 + 1 else (us.map Rat.floor).getD i 0) = cntQ us := by
  unfold cntQ
  refine List.map_congr_left fun i hi => ?_
  have hi' := List.mem_range.mp hi
  by_cases h : rank (FQ us) us.length i < kQ us
  · rw [if_pos h, if_pos ((o.take_iff hi').mpr h)]; rfl
  · rw [if_neg h, if_neg (fun z => h ((o.take_iff hi').mp z))]; rfl
theorem cnt_len (us : List Rat) : (cntQ us).length = us.length := by unfold cntQ; rw [List.length_map, List.length_range]
theorem cnt_at {us : List Rat} {i : Nat} (h : i < us.length) : (cntQ us)[i]? = some (if rank (FQ us) us.length i < kQ us then fl us i + 1 else fl us i) := by
  unfold cntQ
  rw [List.getElem?_map, List.getElem?_range h]
  rfl
theorem FQ_at {us : List Rat} {i : Nat} {u : Rat} (h : us[i]? = some u) : FQ us i = partQ u := by
  unfold FQ
  rw [List.getD_eq_getElem?_getD, List.getElem?_map, h]
  rfl
theorem fl_at {us : List Rat} {i : Nat} {u : Rat} (h : us[i]? = some u) : fl us i = u.floor := by
  unfold fl
  rw [List.getD_eq_getElem?_getD, List.getElem?_map, h]
  rfl
/-- whether a count goes with its part and the paper -/
def putB (u : Rat) (c : Int) (w : Rat) : Bool :=
  if (u - (c : Rat)).num = 0 then true
  else if 0 < (u - (c : Rat)).num then decide (u - (c : Rat) < 1) && !decide (w < u - (c : Rat))
  else decide (0 < (u - (c : Rat) + 1).num) && !decide (u - (c : Rat) + 1 < w)
def roundB (u : Rat) (c : Int) : Bool :=
  if 2 * ((u.num - c * (u.den : Int)).natAbs : Int) = (u.den : Int) then decide (c % 2 = 0) else decide (2 * ((u.num - c * (u.den : Int)).natAbs : Int) < (u.den : Int))
theorem num_posQ {x : Rat} : 0 < x.num ↔ 0 < x := by
  have a := Rat.num_nonneg (q := x)
  have b := Rat.num_eq_zero (q := x)
  constructor
  · intro h
    have h1 := a.mp (by omega)
    have : x ≠ 0 := fun z => by have := b.mpr z; omega
    grind
  · intro h
    have h1 := a.mpr (Rat.le_of_lt h)
    have : x.num ≠ 0 := fun z => by have := b.mp z; rw [this] at h; exact Rat.lt_irrefl h
    omega
theorem put_told {us : List Rat} {w : Rat} (hw : PapOk us w) {i : Nat} {u : Rat} {c : Int} (hu : us[i]? = some u) (hc : (cntQ us)[i]? = some c) : putB u c w = true := by
  have hi : i < us.length := (List.getElem?_eq_some_iff.mp hu).1
  rw [cnt_at hi] at hc
  have hF := FQ_at hu
  have hf := fl_at hu
  have g := part_ge u
  have l := part_lt u
  obtain rfl := Option.some.inj hc
  rw [hf]
  have eP : u - ((u.floor : Int) : Rat) = partQ u := rfl
  unfold putB
  by_cases r : rank (FQ us) us.length i < kQ us
  · rw [if_pos r]
    have p := up_pos hi r
    have wl := hw.up i hi r
    rw [hF] at p wl
    have e : u - ((u.floor + 1 : Int) : Rat) = partQ u - 1 := by rw [Rat.intCast_add]; show u - ((u.floor : Rat) + 1) = _; grind
    have e2 : partQ u - 1 + 1 = partQ u := by grind
    rw [e, e2]
    have n1 : ¬ (partQ u - 1).num = 0 := num_ne (by grind)
    have n2 : ¬ 0 < (partQ u - 1).num := fun z => by
      have := num_posQ.mp z
      grind
    rw [if_neg n1, if_neg n2, decide_eq_true (num_posQ.mpr p), decide_eq_false (Rat.not_lt.mpr wl)]
    rfl
  · rw [if_neg r, eP]
    have wl := hw.dn i hi r
    rw [hF] at wl
    by_cases z : (partQ u).num = 0
    · rw [if_pos z]
    · have p : 0 < (partQ u).num := by
        have := Rat.num_nonneg.mpr g
        omega
      rw [if_neg z, if_pos p, decide_eq_true l, decide_eq_false (Rat.not_lt.mpr wl)]
      rfl
theorem round_iff (u : Rat) (c : Int) : roundB u c = decide (c = takenQ .heven u) := by
  have d0 : (0 : Int) < (u.den : Int) := by have := u.den_pos; omega
  have e : Rat.divInt u.num (u.den : Int) = u := Rat.num_divInt_den u
  have h := even_div (a := u.num) d0
  rw [e] at h
  rw [h]
  unfold roundB
  have m := Int.mul_ediv_add_emod u.num (u.den : Int)
  have r0 := Int.emod_nonneg u.num (show (u.den : Int) ≠ 0 by omega)
  have r1 := Int.emod_lt_of_pos u.num d0
  generalize (u.den : Int) = b at *
  generalize u.num = a at *
  generalize a % b = r at *
  generalize a / b = q at *
  have x : a - c * b = b * (q - c) + r := by rw [← m, Int.mul_sub, Int.mul_comm c b]; omega
  rw [x]
  generalize hd : q - c = d at *
  rcases Int.lt_trichotomy d 0 with t | t | t
  · by_cases t1 : d = -1
    · subst t1
      rw [Int.mul_neg, Int.mul_one]
      by_cases s : 2 * ((-b + r).natAbs : Int) = b
      · rw [if_pos s, decide_eq_decide]
        split <;> omega
      · rw [if_neg s, decide_eq_decide]
        split <;> omega
    · have y : b * d ≤ b * (-2) := Int.mul_le_mul_of_nonneg_left (by omega) (by omega)
      generalize b * d = z at *
      rw [if_neg (by omega), decide_eq_decide]
      split <;> omega
  · subst t
    rw [Int.mul_zero]
    by_cases s : 2 * ((0 + r).natAbs : Int) = b
    · rw [if_pos s, decide_eq_decide]
      split <;> omega
    · rw [if_neg s, decide_eq_decide]
      split <;> omega
  · have y : b * 1 ≤ b * d := Int.mul_le_mul_of_nonneg_left (by omega) (by omega)
    generalize b * d = z at *
    rw [if_neg (by omega), decide_eq_decide]
    split <;> omega
end My

namespace My
/-! ### the best of the left ones, turn by turn -/
def leftL (us : List Rat) (j : Nat) : List Nat := (List.range us.length).filter fun i => decide (j ≤ rank (FQ us) us.length i)
theorem left_zero (us : List Rat) : leftL us 0 = List.range us.length := List.filter_eq_self.mpr fun i _ => by simp
theorem left_mem {us : List Rat} {j i : Nat} : i ∈ leftL us j ↔ i < us.length ∧ j ≤ rank (FQ us) us.length i := by
  unfold leftL
  rw [List.mem_filter, List.mem_range, decide_eq_true_eq]
theorem left_pw (us : List Rat) (j : Nat) : (leftL us j).Pairwise (· < ·) := List.Pairwise.filter _ List.pairwise_lt_range
theorem left_nodup (us : List Rat) (j : Nat) : (leftL us j).Nodup := (left_pw us j).imp fun h => Nat.ne_of_lt h
theorem left_ne {us : List Rat} {j : Nat} (h : j < us.length) : 0 < (leftL us j).length := by
  obtain ⟨i, hi, r⟩ := rank_there (FQ us) h
  exact List.length_pos_of_mem (left_mem.mpr ⟨hi, by omega⟩)
/-- the best one of the first i of the left ones -/
def BestI (us : List Rat) (j i b : Nat) : Prop := (∃ p, (leftL us j)[p]? = some b ∧ p ≤ i) ∧ ∀ m v, m < i → (leftL us j)[m]? = some v → ¬ bef (FQ us) v b
theorem best_step {us : List Rat} {j i b k : Nat} (h : BestI us j i b) (hk : (leftL us j)[i]? = some k) : (FQ us b < FQ us k → BestI us j (i + 1) k) ∧ (¬ FQ us b < FQ us k → BestI us j (i + 1) b) := by
  obtain ⟨⟨p, hp, pi⟩, hm⟩ := h
  constructor
  · intro l
    refine ⟨⟨i, hk, Nat.le_succ _⟩, fun m v ml hv => ?_⟩
    by_cases e : m = i
    · subst e
      rw [hk] at hv
      rw [Option.some.inj hv]
      exact bef_irr
    · have := hm m v (by omega) hv
      unfold bef at this ⊢
      intro z
      rcases z with z | ⟨z, _⟩
      · exact this (.inl (by grind))
      · exact this (.inl (by grind))
  · intro l
    refine ⟨⟨p, hp, by omega⟩, fun m v ml hv => ?_⟩
    by_cases e : m = i
    · subst e
      rw [hk] at hv
      obtain rfl := Option.some.inj hv
      unfold bef
      intro z
      rcases z with z | ⟨z, zl⟩
      · exact l z
      · by_cases e2 : p = m
        · subst e2
          rw [hk] at hp
          have := Option.some.inj hp
          omega
        · obtain ⟨hp1, hp2⟩ := List.getElem?_eq_some_iff.mp hp
          obtain ⟨hk1, hk2⟩ := List.getElem?_eq_some_iff.mp hk
          have := List.pairwise_iff_getElem.mp (left_pw us j) p m hp1 hk1 (by omega)
          omega
    · exact hm m v (by omega) hv
theorem best_end {us : List Rat} {j b : Nat} (hj : j < us.length) (h : BestI us j (leftL us j).length b) : rank (FQ us) us.length b = j ∧ b < us.length := by
  obtain ⟨⟨p, hp, _⟩, hm⟩ := h
  have mb := left_mem.mp (List.mem_of_getElem? hp)
  refine ⟨best_rank hj mb.1 mb.2 fun i hi r => ?_, mb.1⟩
  obtain ⟨m, hv⟩ := List.getElem?_of_mem (left_mem.mpr ⟨hi, r⟩)
  exact hm m i (List.getElem?_eq_some_iff.mp hv).1 hv
theorem erase_at {l : List Nat} {p b : Nat} (nd : l.Nodup) (h : l[p]? = some b) : l.eraseIdx p = l.filter fun i => decide (i ≠ b) := by
  obtain ⟨hp, e⟩ := List.getElem?_eq_some_iff.mp h
  have el : l = l.take p ++ b :: l.drop (p + 1) := by
    rw [← e, List.getElem_cons_drop, List.take_append_drop]
  rw [List.eraseIdx_eq_take_drop_succ]
  have nd' := nd
  rw [el] at nd'
  have n1 := List.nodup_append.mp nd'
  have n2 := List.nodup_cons.mp n1.2.1
  conv => rhs; rw [el]
  rw [List.filter_append, List.filter_cons, if_neg (by simp)]
  rw [List.filter_eq_self.mpr, List.filter_eq_self.mpr]
  · intro x hx
    exact decide_eq_true fun z => n2.1 (z ▸ hx)
  · intro x hx
    exact decide_eq_true fun z => n1.2.2 x hx b (List.mem_cons_self ..) z
theorem left_erase {us : List Rat} {j p b : Nat} (h : (leftL us j)[p]? = some b) (r : rank (FQ us) us.length b = j) (hb : b < us.length) : (leftL us j).eraseIdx p = leftL us (j + 1) := by
  rw [erase_at (left_nodup us j) h]
  unfold leftL
  rw [List.filter_filter]
  refine List.filter_congr fun i hi => ?_
  have hi' := List.mem_range.mp hi
  rw [Bool.eq_iff_iff, Bool.and_eq_true, decide_eq_true_eq, decide_eq_true_eq, decide_eq_true_eq]
  constructor
  · rintro ⟨h1, h2⟩
    refine Classical.byContradiction fun z => h1 ?_
    exact rank_inj (F := FQ us) hi' hb (by omega)
  · intro h1
    refine ⟨fun z => ?_, by omega⟩
    subst z
    omega
theorem left_first {us : List Rat} {j p b : Nat} (h : (leftL us j)[p]? = some b) {m : Nat} (hm : m < p) : (leftL us j)[m]? ≠ some b := by
  intro z
  obtain ⟨h1, e1⟩ := List.getElem?_eq_some_iff.mp h
  obtain ⟨h2, e2⟩ := List.getElem?_eq_some_iff.mp z
  have := List.pairwise_iff_getElem.mp (left_pw us j) m p h2 h1 hm
  omega
def midL (us : List Rat) (j : Nat) : List Int := (List.range us.length).map fun i => if rank (FQ us) us.length i < j then fl us i + 1 else fl us i
theorem mid_zero (us : List Rat) : midL us 0 = us.map Rat.floor := by
  rw [← fl_map]
  unfold midL
  exact List.map_congr_left fun i _ => if_neg (Nat.not_lt_zero _)
theorem mid_end (us : List Rat) : midL us (kQ us) = cntQ us := rfl
theorem mid_len (us : List Rat) (j : Nat) : (midL us j).length = us.length := by unfold midL; rw [List.length_map, List.length_range]
theorem mid_at {us : List Rat} {j i : Nat} (h : i < us.length) : (midL us j)[i]? = some (if rank (FQ us) us.length i < j then fl us i + 1 else fl us i) := by
  unfold midL
  rw [List.getElem?_map, List.getElem?_range h]
  rfl
theorem mid_step {us : List Rat} {j b : Nat} (hb : b < us.length) (r : rank (FQ us) us.length b = j) : (midL us j)[b]? = some (fl us b) ∧ (midL us j).set b (fl us b + 1) = midL us (j + 1) := by
  refine ⟨by rw [mid_at hb, if_neg (by omega)], List.ext_getElem? fun i => ?_⟩
  rw [List.getElem?_set]
  by_cases e : b = i
  · subst e
    rw [if_pos rfl, if_pos (by rw [mid_len]; exact hb), mid_at hb, if_pos (by omega)]
  · rw [if_neg e]
    by_cases hi : i < us.length
    · rw [mid_at hi, mid_at hi]
      have : rank (FQ us) us.length i ≠ j := fun z => e (rank_inj (F := FQ us) hb hi (by omega))
      by_cases c : rank (FQ us) us.length i < j
      · rw [if_pos c, if_pos (by omega)]
      · rw [if_neg c, if_neg (by omega)]
    · rw [List.getElem?_eq_none (by rw [mid_len]; omega), List.getElem?_eq_none (by rw [mid_len]; omega)]
end My

namespace My
/-! ### alike ones: the earlier ones go up -/
theorem cnt_desc (n : Nat) (u : Rat) : (cntQ (List.replicate n u)).Pairwise (· ≥ ·) := by
  have ul : (List.replicate n u).length = n := List.length_replicate
  have fe : ∀ i, i < n → FQ (List.replicate n u) i = partQ u ∧ fl (List.replicate n u) i = u.floor := fun i hi => by
    have h : (List.replicate n u)[i]? = some u := by rw [List.getElem?_replicate, if_pos hi]
    exact ⟨FQ_at h, fl_at h⟩
  unfold cntQ
  rw [ul, List.pairwise_map]
  refine List.Pairwise.imp_of_mem (fun {i j} hi hj lt => ?_) List.pairwise_lt_range
  have hi' := List.mem_range.mp hi
  have hj' := List.mem_range.mp hj
  have r : rank (FQ (List.replicate n u)) n i < rank (FQ (List.replicate n u)) n j := (rank_lt hi' hj').mpr (.inr ⟨by rw [(fe i hi').1, (fe j hj').1], lt⟩)
  rw [(fe i hi').2, (fe j hj').2]
  show _ ≤ _
  split <;> split <;> omega
theorem desc_eq {ms cs : List Int} (p : ms.Perm cs) (h1 : ms.Pairwise (· ≥ ·)) (h2 : cs.Pairwise (· ≥ ·)) : cs = ms :=
  (List.Perm.eq_of_pairwise (le := fun a b : Int => a ≥ b) (fun a b _ _ x y => by omega) h1 h2 p).symm
end My

namespace My
/-! ### no choice of as many is less off -/
theorem sumQ_map_add (f g : Nat → Rat) : ∀ l : List Nat, sumQ (l.map fun k => f k + g k) = sumQ (l.map f) + sumQ (l.map g)
  | [] => by show (0 : Rat) = 0 + 0; grind
  | k :: l => by
    have ih := sumQ_map_add f g l
    show (f k + g k) + sumQ (l.map fun k => f k + g k) = (f k + sumQ (l.map f)) + (g k + sumQ (l.map g))
    rw [ih]
    grind
theorem sumQ_map_le {f g : Nat → Rat} : ∀ {l : List Nat}, (∀ k ∈ l, f k ≤ g k) → sumQ (l.map f) ≤ sumQ (l.map g)
  | [], _ => Rat.le_refl
  | k :: l, h => by
    have a := h k (List.mem_cons_self ..)
    have b := sumQ_map_le (l := l) fun j hj => h j (List.mem_cons_of_mem _ hj)
    show f k + sumQ (l.map f) ≤ g k + sumQ (l.map g)
    grind
theorem sumQ_zero : ∀ l : List Nat, sumQ (l.map fun _ => (0 : Rat)) = 0
  | [] => rfl
  | k :: l => by
    have ih := sumQ_zero l
    show (0 : Rat) + sumQ (l.map fun _ => (0 : Rat)) = 0
    rw [ih]
    grind
theorem sumQ_at {f : Nat → Rat} {a : Nat} : ∀ {l : List Nat}, l.Nodup → a ∈ l → sumQ (l.map fun k => if k = a then f k else 0) = f a
  | [], _, h => by cases h
  | k :: l, nd, h => by
    obtain ⟨n1, n2⟩ := List.nodup_cons.mp nd
    show (if k = a then f k else 0) + sumQ (l.map fun k => if k = a then f k else 0) = f a
    by_cases e : k = a
    · subst e
      have z : (l.map fun j => if j = k then f j else 0) = l.map fun _ => (0 : Rat) := List.map_congr_left fun j hj => if_neg fun (e : j = k) => n1 (e ▸ hj)
      rw [if_pos rfl, z, sumQ_zero]
      grind
    · rw [if_neg e, sumQ_at n2 ((List.mem_cons.mp h).resolve_left fun z => e z.symm)]
      grind
theorem sumQ_in {f : Nat → Rat} {l : List Nat} (ln : l.Nodup) : ∀ {S : List Nat}, S.Nodup → (∀ k ∈ S, k ∈ l) → sumQ (l.map fun k => if k ∈ S then f k else 0) = sumQ (S.map f)
  | [], _, _ => by
    have : (l.map fun k => if k ∈ ([] : List Nat) then f k else 0) = l.map fun _ => (0 : Rat) := List.map_congr_left fun k _ => if_neg List.not_mem_nil
    rw [this, sumQ_zero]
    rfl
  | a :: S, nd, h => by
    obtain ⟨n1, n2⟩ := List.nodup_cons.mp nd
    have ih := sumQ_in (f := f) ln n2 fun k hk => h k (List.mem_cons_of_mem _ hk)
    have e : (l.map fun k => if k ∈ a :: S then f k else 0) = l.map fun k => (if k = a then f k else 0) + (if k ∈ S then f k else 0) := List.map_congr_left fun k _ => by
      by_cases e : k = a
      · subst e
        rw [if_pos (List.mem_cons_self ..), if_pos rfl, if_neg n1]
        grind
      · by_cases e2 : k ∈ S
        · rw [if_pos (List.mem_cons_of_mem _ e2), if_neg e, if_pos e2]
          grind
        · rw [if_neg (by rw [List.mem_cons]; exact fun z => z.elim e e2), if_neg e, if_neg e2]
          grind
    rw [e, sumQ_map_add, ih, sumQ_at ln (h a (List.mem_cons_self ..))]
    rfl
theorem sumQ_const (c : Rat) : ∀ S : List Nat, sumQ (S.map fun _ => c) = ((S.length : Int) : Rat) * c
  | [] => by show (0 : Rat) = ((0 : Int) : Rat) * c; have : ((0 : Int) : Rat) = 0 := rfl; rw [this]; grind
  | k :: S => by
    have ih := sumQ_const c S
    show c + sumQ (S.map fun _ => c) = (((S.length + 1 : Nat) : Int) : Rat) * c
    rw [ih]
    have : (((S.length + 1 : Nat) : Int) : Rat) = ((S.length : Int) : Rat) + 1 := by
      rw [Int.natCast_add, Rat.intCast_add]
      rfl
    rw [this]
    grind
/-- how far off all are -/
def offQ (us : List Rat) (S : List Nat) : Rat := sumQ ((List.range us.length).map fun k => if k ∈ S then 1 - FQ us k else FQ us k)
theorem off_with {us : List Rat} {S : List Nat} (w : Rat) (nd : S.Nodup) (h : ∀ k ∈ S, k < us.length) : offQ us S + ((S.length : Int) : Rat) * (2 * w - 1) = sumQ ((List.range us.length).map fun k => if k ∈ S then 2 * w - FQ us k else FQ us k) := by
  rw [← sumQ_const (2 * w - 1) S, ← sumQ_in (l := List.range us.length) List.nodup_range nd (fun k hk => List.mem_range.mpr (h k hk))]
  unfold offQ
  rw [← sumQ_map_add]
  refine congrArg sumQ (List.map_congr_left fun k _ => ?_)
  by_cases e : k ∈ S
  · rw [if_pos e, if_pos e, if_pos e]; grind
  · rw [if_neg e, if_neg e, if_neg e]; grind
def mineL (us : List Rat) : List Nat := (List.range us.length).filter fun k => decide (rank (FQ us) us.length k < kQ us)
theorem mine_mem {us : List Rat} {k : Nat} : k ∈ mineL us ↔ k < us.length ∧ rank (FQ us) us.length k < kQ us := by
  unfold mineL
  rw [List.mem_filter, List.mem_range, decide_eq_true_eq]
theorem mine_len (us : List Rat) : (mineL us).length = kQ us := rank_count (FQ us) (k_len us)
theorem mine_nodup (us : List Rat) : (mineL us).Nodup := List.Pairwise.filter _ List.nodup_range
theorem mine_least {us : List Rat} {w : Rat} (pap : PapOk us w) {S : List Nat} (nd : S.Nodup) (h : ∀ k ∈ S, k < us.length) (l : S.length = (mineL us).length) : offQ us (mineL us) ≤ offQ us S := by
  have a := off_with w nd h
  have b := off_with w (mine_nodup us) fun k hk => (mine_mem.mp hk).1
  rw [l] at a
  have c : sumQ ((List.range us.length).map fun k => if k ∈ mineL us then 2 * w - FQ us k else FQ us k) ≤ sumQ ((List.range us.length).map fun k => if k ∈ S then 2 * w - FQ us k else FQ us k) := sumQ_map_le fun k hk => by
    have hk' := List.mem_range.mp hk
    by_cases m : rank (FQ us) us.length k < kQ us
    · have u := pap.up k hk' m
      rw [if_pos (mine_mem.mpr ⟨hk', m⟩)]
      split <;> grind
    · have u := pap.dn k hk' m
      rw [if_neg (fun z => m (mine_mem.mp z).2)]
      split <;> grind
  generalize ((((mineL us).length : Nat) : Int) : Rat) * (2 * w - 1) = z at *
  grind
end My

namespace My
/-! ### parts put otherwise: shifted by whole steps, with whole steps beside, in another row -/
theorem int_floor (i : Int) : ((i : Int) : Rat).floor = i := by
  have h := floor_add (c := i) (f := 0) Rat.le_refl (by decide +kernel)
  have e : ((i : Int) : Rat) + 0 = ((i : Int) : Rat) := by grind
  rw [e] at h
  exact h
theorem int_part (i : Int) : partQ ((i : Int) : Rat) = 0 := by
  unfold partQ
  rw [int_floor]
  grind
theorem shift_floor (u : Rat) (m : Int) : (u + (m : Rat)).floor = u.floor + m := by
  have e : u + (m : Rat) = ((u.floor + m : Int) : Rat) + partQ u := by
    rw [Rat.intCast_add]
    unfold partQ
    grind
  rw [e]
  exact floor_add (part_ge u) (part_lt u)
theorem shift_part (u : Rat) (m : Int) : partQ (u + (m : Rat)) = partQ u := by
  have h := shift_floor u m
  unfold partQ
  rw [h, Rat.intCast_add]
  grind
theorem taken_even {u : Rat} {m : Int} (h : m % 2 = 0) : takenQ .heven (u + (m : Rat)) = takenQ .heven u + m := by
  unfold takenQ
  rw [shift_part, shift_floor]
  split
  · rfl
  · have e : ruleB .heven (u.floor + m) (partQ u) = ruleB .heven u.floor (partQ u) := by
      show nearerB (partQ u) (decide ((u.floor + m) % 2 = 1)) = nearerB (partQ u) (decide (u.floor % 2 = 1))
      have : decide ((u.floor + m) % 2 = 1) = decide (u.floor % 2 = 1) := decide_eq_decide.mpr (by omega)
      rw [this]
    rw [e]
    split <;> omega
def shifted (us : List Rat) (ms : List Int) : List Rat := List.zipWith (fun u m => u + ((m : Int) : Rat)) us ms
theorem shifted_len {us : List Rat} {ms : List Int} (l : ms.length = us.length) : (shifted us ms).length = us.length := by unfold shifted; rw [List.length_zipWith, l]; omega
theorem shifted_sum : ∀ {us : List Rat} {ms : List Int}, ms.length = us.length → sumQ (shifted us ms) = sumQ us + ((ms.sum : Int) : Rat) ∧ sumF (shifted us ms) = sumF us + ms.sum
  | [], [], _ => ⟨by show (0 : Rat) = 0 + ((0 : Int) : Rat); decide +kernel, rfl⟩
  | [], _ :: _, h => by cases h
  | _ :: _, [], h => by cases h
  | u :: us, m :: ms, h => by
    obtain ⟨a, b⟩ := shifted_sum (us := us) (ms := ms) (by simpa using h)
    constructor
    · show (u + ((m : Int) : Rat)) + sumQ (shifted us ms) = (u + sumQ us) + (((m :: ms).sum : Int) : Rat)
      rw [a, List.sum_cons, Rat.intCast_add]
      grind
    · show (u + ((m : Int) : Rat)).floor + sumF (shifted us ms) = (u.floor + sumF us) + (m :: ms).sum
      rw [b, shift_floor, List.sum_cons]
      omega
theorem shifted_F {us : List Rat} {ms : List Int} (l : ms.length = us.length) : FQ (shifted us ms) = FQ us := by
  funext i
  by_cases h : i < us.length
  · have e1 := List.getElem?_eq_getElem h
    have e2 : ms[i]? = some ms[i] := List.getElem?_eq_getElem (by omega)
    have e : (shifted us ms)[i]? = some (us[i] + ((ms[i] : Int) : Rat)) := by unfold shifted; rw [List.getElem?_zipWith, e1, e2]
    rw [FQ_at e, FQ_at e1, shift_part]
  · unfold FQ
    rw [List.getD_eq_getElem?_getD, List.getD_eq_getElem?_getD, List.getElem?_eq_none (by rw [List.length_map, shifted_len l]; omega), List.getElem?_eq_none (by rw [List.length_map]; omega)]
theorem shifted_cnt {us : List Rat} {ms : List Int} (l : ms.length = us.length) (ev : ms.sum % 2 = 0) : cntQ (shifted us ms) = List.zipWith (· + ·) (cntQ us) ms := by
  obtain ⟨s1, s2⟩ := shifted_sum l
  have k : kQ (shifted us ms) = kQ us := by
    unfold kQ
    rw [s1, s2, taken_even ev]
    congr 1
    omega
  refine List.ext_getElem? fun i => ?_
  by_cases h : i < us.length
  · have e1 := List.getElem?_eq_getElem h
    have e2 : ms[i]? = some ms[i] := List.getElem?_eq_getElem (by omega)
    have e : (shifted us ms)[i]? = some (us[i] + ((ms[i] : Int) : Rat)) := by unfold shifted; rw [List.getElem?_zipWith, e1, e2]
    rw [cnt_at (by rw [shifted_len l]; exact h), List.getElem?_zipWith, cnt_at h, e2, fl_at e, fl_at e1, shift_floor, shifted_F l, k, shifted_len l]
    show some _ = some _
    congr 1
    split <;> omega
  · rw [List.getElem?_eq_none (by rw [cnt_len, shifted_len l]; omega), List.getElem?_eq_none (by rw [List.length_zipWith, cnt_len]; omega)]
/-! whole steps beside -/
theorem beside_F (us : List Rat) (is : List Int) : FQ (us ++ is.map fun i : Int => ((i : Int) : Rat)) = FQ us := by
  funext i
  by_cases h : i < us.length
  · have e1 := List.getElem?_eq_getElem h
    have e : (us ++ is.map fun i : Int => ((i : Int) : Rat))[i]? = some us[i] := by rw [List.getElem?_append_left h]; exact e1
    rw [FQ_at e, FQ_at e1]
  · have z : FQ us i = 0 := by
      unfold FQ
      rw [List.getD_eq_getElem?_getD, List.getElem?_eq_none (by rw [List.length_map]; omega)]
      rfl
    rw [z]
    by_cases h2 : i - us.length < is.length
    · have e : (us ++ is.map fun i : Int => ((i : Int) : Rat))[i]? = some ((is[i - us.length] : Int) : Rat) := by
        rw [List.getElem?_append_right (by omega), List.getElem?_map, List.getElem?_eq_getElem h2]
        rfl
      rw [FQ_at e, int_part]
    · unfold FQ
      rw [List.getD_eq_getElem?_getD, List.getElem?_eq_none (by rw [List.length_map, List.length_append, List.length_map]; omega)]
      rfl
theorem sumQ_app : ∀ a b : List Rat, sumQ (a ++ b) = sumQ a + sumQ b
  | [], b => by show sumQ b = 0 + sumQ b; grind
  | x :: a, b => by
    show x + sumQ (a ++ b) = x + sumQ a + sumQ b
    rw [sumQ_app a b]
    grind
theorem sumQ_ints : ∀ is : List Int, sumQ (is.map fun i : Int => ((i : Int) : Rat)) = ((is.sum : Int) : Rat)
  | [] => rfl
  | i :: is => by
    show ((i : Int) : Rat) + sumQ (is.map fun i : Int => ((i : Int) : Rat)) = (((i :: is).sum : Int) : Rat)
    rw [sumQ_ints is, List.sum_cons, Rat.intCast_add]
theorem floors_ints (is : List Int) : (is.map fun i : Int => ((i : Int) : Rat)).map Rat.floor = is := by
  rw [List.map_map]
  have : (Rat.floor ∘ fun i : Int => ((i : Int) : Rat)) = id := by funext i; exact int_floor i
  rw [this, List.map_id]
theorem rank_more {F : Nat → Rat} {n m i : Nat} (hi : i < n) (pos : ∀ j, 0 ≤ F j) (z : ∀ j, n ≤ j → F j = 0) : rank F (n + m) i = rank F n i := by
  unfold rank
  rw [List.range_add, List.filter_append, List.length_append]
  have : ((List.map (fun x => n + x) (List.range m)).filter fun j => decide (bef F j i)) = [] := List.filter_eq_nil_iff.mpr fun j hj => by
    obtain ⟨x, _, rfl⟩ := List.mem_map.mp hj
    rw [decide_eq_true_eq]
    have zz := z (n + x) (by omega)
    have pp := pos i
    unfold bef
    rw [zz]
    rintro (h | ⟨h, l⟩)
    · exact absurd h (Rat.not_lt.mpr pp)
    · omega
  rw [this, List.length_nil, Nat.add_zero]
theorem beside_cnt (us : List Rat) (is : List Int) (s0 : is.sum = 0) : cntQ (us ++ is.map fun i : Int => ((i : Int) : Rat)) = cntQ us ++ is := by
  have il : (is.map fun i : Int => ((i : Int) : Rat)).length = is.length := List.length_map _
  have k : kQ (us ++ is.map fun i : Int => ((i : Int) : Rat)) = kQ us := by
    unfold kQ sumF
    rw [sumQ_app, sumQ_ints, s0, List.map_append, List.sum_append, floors_ints, s0]
    have : sumQ us + ((0 : Int) : Rat) = sumQ us := by show sumQ us + 0 = _; grind
    rw [this]
    congr 1
    omega
  have zF : ∀ j, us.length ≤ j → FQ us j = 0 := fun j h => by
    unfold FQ
    rw [List.getD_eq_getElem?_getD, List.getElem?_eq_none (by rw [List.length_map]; exact h)]
    rfl
  refine List.ext_getElem? fun i => ?_
  by_cases h : i < us.length
  · have e1 := List.getElem?_eq_getElem h
    have e : (us ++ is.map fun i : Int => ((i : Int) : Rat))[i]? = some us[i] := by rw [List.getElem?_append_left h]; exact e1
    rw [cnt_at (by rw [List.length_append]; omega), List.getElem?_append_left (by rw [cnt_len]; exact h), cnt_at h, fl_at e, fl_at e1, beside_F, k, List.length_append, rank_more h (FQ_ge us) zF]
  · by_cases h2 : i - us.length < is.length
    · have e : (us ++ is.map fun i : Int => ((i : Int) : Rat))[i]? = some ((is[i - us.length] : Int) : Rat) := by
        rw [List.getElem?_append_right (by omega), List.getElem?_map, List.getElem?_eq_getElem h2]
        rfl
      have hi : i < (us ++ is.map fun i : Int => ((i : Int) : Rat)).length := by rw [List.length_append, il]; omega
      have nu : ¬ rank (FQ (us ++ is.map fun i : Int => ((i : Int) : Rat))) (us ++ is.map fun i : Int => ((i : Int) : Rat)).length i < kQ (us ++ is.map fun i : Int => ((i : Int) : Rat)) := fun z => by
        have := up_pos hi z
        rw [beside_F, zF i (by omega)] at this
        exact Rat.lt_irrefl this
      rw [cnt_at hi, if_neg nu, fl_at e, int_floor, List.getElem?_append_right (by rw [cnt_len]; omega), cnt_len, List.getElem?_eq_getElem h2]
    · rw [List.getElem?_eq_none (by rw [cnt_len, List.length_append, il]; omega), List.getElem?_eq_none (by rw [List.length_append, cnt_len]; omega)]
/-! in another row -/
def upsQ (us : List Rat) : List (Rat × Bool) := (List.range us.length).map fun i => (FQ us i, decide (rank (FQ us) us.length i < kQ us))
theorem sumQ_perm {a b : List Rat} (p : a.Perm b) : sumQ a = sumQ b := by
  induction p with
  | nil => rfl
  | cons x _ ih => show x + _ = x + _; rw [ih]
  | swap x y l => show y + (x + sumQ l) = x + (y + sumQ l); grind
  | trans _ _ h1 h2 => exact h1.trans h2
theorem sum_perm {a b : List Int} (p : a.Perm b) : a.sum = b.sum := by
  induction p with
  | nil => rfl
  | cons x _ ih => rw [List.sum_cons, List.sum_cons, ih]
  | swap x y l => simp only [List.sum_cons]; omega
  | trans _ _ h1 h2 => exact h1.trans h2
theorem F_range (us : List Rat) : (List.range us.length).map (FQ us) = us.map partQ := by
  refine List.ext_getElem? fun i => ?_
  rw [List.getElem?_map, List.getElem?_map]
  by_cases h : i < us.length
  · rw [List.getElem?_range h, List.getElem?_eq_getElem h]
    show some _ = some _
    rw [FQ_at (List.getElem?_eq_getElem h)]
  · rw [List.getElem?_eq_none (by rw [List.length_range]; omega), List.getElem?_eq_none (by omega)]
    rfl
theorem ups_ord {us : List Rat} {L : List Nat} (o : Ord (FQ us) us.length L) : (upsQ us).Perm ((L.map (FQ us)).zipIdx.map fun e => (e.1, decide (e.2 < kQ us))) := by
  have e : (L.map (FQ us)).zipIdx.map (fun e => (e.1, decide (e.2 < kQ us))) = L.map fun i => (FQ us i, decide (rank (FQ us) us.length i < kQ us)) := by
    refine List.ext_getElem? fun p => ?_
    rw [List.getElem?_map, List.getElem?_zipIdx, List.getElem?_map, List.getElem?_map]
    by_cases h : p < L.length
    · rw [List.getElem?_eq_getElem h]
      have r := o.rank_at h
      show some _ = some _
      simp [r]
    · rw [List.getElem?_eq_none (by omega)]
      rfl
  rw [e]
  exact (o.perm.map _).symm
theorem ups_perm {us vs : List Rat} (p : us.Perm vs) : (upsQ us).Perm (upsQ vs) := by
  obtain ⟨L, o⟩ := ord_there (FQ us) us.length
  obtain ⟨M, q⟩ := ord_there (FQ vs) vs.length
  have k : kQ us = kQ vs := by
    unfold kQ sumF
    rw [sumQ_perm p, sum_perm (p.map Rat.floor)]
  have pe : (L.map (FQ us)).Perm (M.map (FQ vs)) := by
    have a := o.perm.map (FQ us)
    have b := q.perm.map (FQ vs)
    rw [F_range] at a b
    exact a.trans ((p.map partQ).trans b.symm)
  have desc : ∀ {ws : List Rat} {N : List Nat}, Ord (FQ ws) ws.length N → (N.map (FQ ws)).Pairwise fun x y => y ≤ x := fun {ws N} o => by
    rw [List.pairwise_map]
    refine o.srt.imp fun {a b} h => ?_
    exact Rat.not_lt.mp fun z => h (.inl z)
  have e : L.map (FQ us) = M.map (FQ vs) := List.Perm.eq_of_pairwise (le := fun x y : Rat => y ≤ x) (fun a b _ _ x y => Rat.le_antisymm y x) (desc o) (desc q) pe
  have a := ups_ord o
  have b := ups_ord q
  rw [← e, ← k] at b
  exact a.trans b.symm
end My

/-! ### isinstance of a def -/
namespace PySem
open Sem (wp)
namespace F
theorem my_slot_function_ga : Slot "function" "__getattribute__" "object.__getattribute__" :=
  .of (owner := "object") (n := "__getattribute__") (by rw [typeLookup_type, builtinLookup_eq_fast]; kernel_rfl) (by decide +kernel) (by decide +kernel) (by decide +kernel)
    (by first | exact .inl (by decide +kernel) | exact .inr (by decide +kernel)) (by rw [isSubtype_type]; kernel_rfl)
theorem my_lk_function_class : typeLookup (.type "function") "__class__" = pure (some (.builtin "object.__class__")) := by rw [typeLookup_type, builtinLookup_eq_fast]; kernel_rfl
theorem my_sub_function_owner : isSubtype (.type "function") (.type (".".intercalate ("object.__class__".cutAt '.').dropLast)) = pure true := by
  rw [owner_object_class, isSubtype_type]; kernel_rfl
end F
section
variable {prog : Program} {w : World} {A : Around} {E : Value → Shared → Prop} {h : Heap} {g : Array GenState} {d : Drawn} {t : Nat} {os : OsState} {a : Addr} {o : Obj}
theorem my_class_get_fun {R : Result → Shared → Prop} (hx : h.get? a = some o) (hc : o.cls = .type "function") (hq : R (.ok (.ret (.type "function"))) ⟨h, g, d, t, os⟩) :
    codeAny (model prog w) A (.call (.builtin "getset_descriptor.__get__") ⟨[.builtin "object.__class__", .ref a, .type "function"], []⟩) R ⟨h, g, d, t, os⟩ := by
  have hT : (⟨h, g, d, t, os⟩ : Shared).TypeIs (.ref a) "function" := ⟨_, hx, hc⟩
  have hT5 : (⟨h, g, d, t, os⟩ : Shared).TypeIs (.builtin "object.__class__") "getset_descriptor" := F.typeOf_object_class
  have f8 := F.my_sub_function_owner
  refine codeAny_call_builtin F.slot_gs_get.plain F.entry_gs_get (F.slot_gs_get.check _ _ _ _ _ _ _ _ hT5 (F.args_gs_get _ _ _) ?_)
  repeat (any_goals (first | assumption | wp_step))
  refine ⟨Code.quiet_builtin _ (by decide +kernel), codeAny_builtin F.entry_object_class ?_⟩
  repeat (any_goals (first | assumption | wp_step))
theorem my_class_entry_fun {tk : Tok} {Q : Fin → Shared → Prop} (hx : h.get? a = some o) (hc : o.cls = .type "function") (hq : Q (.done (.ret (.type "function"))) ⟨h, g, d, t, os⟩) :
    wpAny (model prog w) A (Builtin.«object.__getattribute__» ⟨[.ref a, .str "__class__" tk], []⟩) Q E ⟨h, g, d, t, os⟩ := by
  have hT : (⟨h, g, d, t, os⟩ : Shared).TypeIs (.ref a) "function" := ⟨_, hx, hc⟩
  have hT5 : (⟨h, g, d, t, os⟩ : Shared).TypeIs (.builtin "object.__class__") "getset_descriptor" := F.typeOf_object_class
  have f4 := F.my_lk_function_class
  have f5 := F.typeOf_object_class
  have f6 := F.slot_gs_get.lookup
  have f7 := F.slot_gs_set.lookup
  repeat (any_goals (first | assumption | wp_step))
  refine my_class_get_fun hx hc ?_
  repeat (any_goals (first | assumption | wp_step))
theorem my_class_call_fun {tk : Tok} {R : Result → Shared → Prop} (hx : h.get? a = some o) (hc : o.cls = .type "function") (hq : R (.ok (.ret (.type "function"))) ⟨h, g, d, t, os⟩) :
    codeAny (model prog w) A (.call (.builtin "object.__getattribute__") ⟨[.ref a, .str "__class__" tk], []⟩) R ⟨h, g, d, t, os⟩ :=
  codeAny_call_builtin F.my_slot_function_ga.plain F.entry_object_getattribute (F.my_slot_function_ga.check _ _ _ _ _ _ _ _ (show (⟨h, g, d, t, os⟩ : Shared).TypeIs (.ref a) "function" from ⟨_, hx, hc⟩) (F.args_object_getattribute_2 _ _) (my_class_entry_fun hx hc hq))
theorem my_class_by_fun {tk : Tok} {Q : Value → Shared → Prop} (hx : h.get? a = some o) (hc : o.cls = .type "function") (hq : Q (.type "function") ⟨h, g, d, t, os⟩) : wpAny (model prog w) A (getAttrBy (.ref a) (.str "__class__" tk) false) Q E ⟨h, g, d, t, os⟩ := by
  have hT : (⟨h, g, d, t, os⟩ : Shared).TypeIs (.ref a) "function" := ⟨_, hx, hc⟩
  have f2 := F.my_slot_function_ga.lookup
  have f3 := F.my_slot_function_ga.bind (.ref a)
  repeat (any_goals (first | assumption | wp_step))
  refine my_class_call_fun hx hc ?_
  repeat (any_goals (first | assumption | wp_step))
theorem my_class_attr_fun {Q : Option Value → Shared → Prop} (hx : h.get? a = some o) (hc : o.cls = .type "function") (hq : Q (some (.type "function")) ⟨h, g, d, t + 1, os⟩) : wpAny (model prog w) A (getAttr? (.ref a) "__class__") Q E ⟨h, g, d, t, os⟩ := by
  unfold getAttr? getAttrBy?
  repeat (any_goals (first | assumption | with_reducible apply my_class_by_fun hx hc | wp_step))
end
end PySem
namespace PySem.W
theorem my_kitx_fun {K : Frag} {a : Addr} : KitX K (.ref a) (.type "function") (KitAt a "function") := kitx_of kitAt_ty (fun {_ _ _ _ _ s} p k => by obtain ⟨h, g, d, t, os⟩ := s; obtain ⟨o, h1, h2⟩ := p; exact my_class_attr_fun h1 h2 k)
end PySem.W

namespace My
open PySem L2
/-- isinstance of a def of the module's top -/
def rIsiF (K : PySem.W.Frag) : List V → Hp → VK → Prop := fun xs H Q => ∃ (a : Addr) (o : Obj) (n : String) (b : Bool), xs = [.ref a, .ty n] ∧ K.lookup a = some o ∧ o.cls = .type "function" ∧ PySem.W.kitOne K (.type "function") (.type n) = some b ∧ Q (.bl b) H
theorem call_isiF {X : Cx} : CallR X (.builtin "isinstance") (rIsiF X.K) := by
  intro pins s σ H xs us Q I r h
  obtain ⟨a, o, n, b, rfl, hl, hc, e, q⟩ := h
  obtain ⟨u1, u2, rfl, r1, r2⟩ := vals2 r
  have e2 := (ClsV.ty n).eq r2
  subst e2
  cases (show u1 = Value.ref a from r1)
  exact PySem.W.kia_one PySem.W.my_kitx_fun I.kIn ⟨o, I.kIn _ _ hl, hc⟩ e (fun z => nomatch z) fun tk => ⟨.bl b, H, I.tok tk, rfl, q⟩
theorem fun_str {K : PySem.W.Frag} {H : Hp} {a : Addr} {Q : VK} (h : ∃ o, K.lookup a = some o ∧ o.cls = .type "function") (q : Q (.bl false) H) : rIsiF K [.ref a, .ty "str"] H Q :=
  let ⟨o, h1, h2⟩ := h
  ⟨a, o, "str", false, rfl, h1, h2, kit_ty (by decide +kernel), q⟩
end My

namespace My
open PySem L2
/-! ### == and != of two objects of an own class with an own == -/
section
variable {X : Cx} {C f : Addr} {fd : FuncData} {ps : List Str} {n : Nat} {sp : Sp}
/-- the own == as it runs, within X or one builtin deeper -/
theorem run_eq {A : Around} {pins : List (Addr × Obj)} {σ : L2.St} {H : Hp} {s : Shared} {a b : Addr} {Q : VK} {E : XK} (F : FnOk X.prog X.w X.K X.mg X.base CX0 n f fd ps sp) (hb : Binds X.K fd ps []) (hr : Room n A) (hfr : A.frames = X.A.frames)
    (I : Inv X pins σ H s) (h : sp [.ref a, .ref b] H Q E) : wpAny (model X.prog X.w) A (call (.ref f) [.ref a, .ref b]) (EP X pins σ Q) X.xe s := by
  have w0 := I.env0
  have w1 : Env0 X.prog X.w X.K X.mg X.base A X.stack s H := ⟨hfr.trans w0.frames, w0.mod, w0.bs, w0.bsz, w0.funs, w0.frf, w0.hok, w0.bare⟩
  have len2 : 2 = ps.length := F.len _ _ _ _ h
  have bnd : BindsTo s fd ⟨[.ref a, .ref b], []⟩ (ps.zip [.ref a, .ref b]) := by
    have q := hb s [.ref a, .ref b] I.kIn (by simpa using len2)
    simpa using q
  refine wpAny_call (codeAny_mono (F.run A X.stack s H ⟨[.ref a, .ref b], []⟩ [.ref a, .ref b] [.ref a, .ref b] Q E hr w1 bnd (.cons rfl (.cons rfl .nil)) h) ?_)
  intro r s' z
  match r, z with
  | .error _, z => exact z.elim
  | .ok (.ret u), z => exact I.after z
/-- a == b -/
def rEqOwn (C : Addr) (sp : Sp) : R2 := fun x y H Q => ∃ (a b dx dy : Addr) (fs gs : List (Str × V)), x = .ref a ∧ y = .ref b ∧ H a = some (.ins C dx fs) ∧ H b = some (.ins C dy gs) ∧ sp [.ref a, .ref b] H (fun v H' => ∃ k, v = .bl k ∧ Q (.bl k) H') E0
theorem op_eqOwn (F : FnOk X.prog X.w X.K X.mg X.base CX0 n f fd ps sp) (hs : PySem.W.findIn X.K (.ref C) "__eq__" = some (some (.ref f))) (hf : PySem.W.isFn X.K (.ref f) = true) (hb : Binds X.K fd ps []) (hr : Room n X.A) :
    OpR X (compareOp .Eq) (rEqOwn C sp) := by
  rintro pins s σ H x y v u Q I rx ry ⟨a, b, dx, dy, fs, gs, rfl, rfl, ha, hb', q⟩
  cases rx
  cases ry
  obtain ⟨_, J1, _⟩ := ins_get I.hok ha
  obtain ⟨_, J2, _⟩ := ins_get I.hok hb'
  obtain ⟨_, K1, _⟩ := J1.look
  obtain ⟨_, K2, _⟩ := J2.look
  obtain ⟨_, fr⟩ := I.fr
  show wpAny (model X.prog X.w) X.A (richCompare .Eq (.ref a) (.ref b)) _ _ s
  refine PySem.W.cmp_K (op := .Eq) (tb := .ref C) hr.units0 fr I.ok.mod.kin K1 K2.type (by simp [PySem.W.notFirst]) hs hf ?_
  refine thn (run_eq F hb hr rfl I q) ?_
  rintro w s' ⟨z, H', I', rz, k, rfl, qk⟩
  cases rz
  exact ⟨.bl k, H', I', rfl, qk⟩
/-- a != b, no own != -/
def rNeOwn (C : Addr) (sp : Sp) : R2 := fun x y H Q => ∃ (a b dx dy : Addr) (fs gs : List (Str × V)), x = .ref a ∧ y = .ref b ∧ H a = some (.ins C dx fs) ∧ H b = some (.ins C dy gs) ∧ sp [.ref a, .ref b] H (fun v H' => ∃ k, v = .bl k ∧ Q (.bl (!k)) H') E0
theorem ne_run {P : Program} {w : World} {A : Around} {R : Fin → Shared → Prop} {E : Value → Shared → Prop} {K : PySem.W.Frag} {s : Shared} {a b C f : Addr} {ox : Obj} {od : Option Obj} (hu : A.units < cLine) (X : K.In s.heap) (I : PySem.W.InstAt s.heap a ox C od)
    (hs : PySem.W.findIn K (.ref C) "__eq__" = some (some (.ref f))) (hf : PySem.W.isFn K (.ref f) = true) (h : wpAny (model P w) A (call (.ref f) [.ref a, .ref b]) (fun v s' => ∃ k, v = .bool k ∧ R (.done (.ret (.bool (!k)))) s') E s) :
    wpAny (model P w) A (Builtin.«object.__ne__» ⟨[.ref a, .ref b], []⟩) R E s := by
  have e : Builtin.«object.__ne__» ⟨[.ref a, .ref b], []⟩ = (do
      cRoomFor "comparison" [.ref a, .ref b]
      let r ← callSpecialIfBound? (.ref a) "__eq__" [.ref b]
      match r with
      | some .notImplemented | none => PySem.ret .notImplemented
      | some r => PySem.ret (.bool (!(← truthy r)))) := by rfl
  rw [e]
  refine wpAny_bind (wpAny_cRoomFor hu ?_)
  refine wpAny_bind (PySem.W.ifBound_K X I hs hf (wpAny_mono h ?_ fun _ _ z => z))
  rintro v s' ⟨k, rfl, q⟩
  exact wpAny_bind (wpAny_truthy_bool (wpAny_pure q))
theorem op_neOwn (F : FnOk X.prog X.w X.K X.mg X.base CX0 n f fd ps sp) (hs : PySem.W.findIn X.K (.ref C) "__eq__" = some (some (.ref f))) (hf : PySem.W.isFn X.K (.ref f) = true) (hb : Binds X.K fd ps [])
    (hn : PySem.W.findIn X.K (.ref C) "__ne__" = some (some (.builtin "object.__ne__"))) (hm : PySem.W.mroIn X.K C (.type "object") = some true) (hr : Room (n + 1) X.A) :
    OpR X (compareOp .NotEq) (rNeOwn C sp) := by
  rintro pins s σ H x y v u Q I rx ry ⟨a, b, dx, dy, fs, gs, rfl, rfl, ha, hb', q⟩
  cases rx
  cases ry
  obtain ⟨_, J1, _⟩ := ins_get I.hok ha
  obtain ⟨_, J2, _⟩ := ins_get I.hok hb'
  obtain ⟨_, K1, _⟩ := J1.look
  obtain ⟨_, K2, _⟩ := J2.look
  have kin := I.kIn
  have sub : PySem.W.Looks (model X.prog X.w) s.heap (isInstance (.ref a) (.type "object")) true := K1.type.andThen (PySem.W.looks_mroIn kin hm)
  have r1 : Room n X.A.in1 := hr.in1
  have go : wpAny (model X.prog X.w) X.A (call (.builtin "object.__ne__") [.ref a, .ref b]) (fun v s' => v ≠ .notImplemented ∧ EP X pins σ Q v s') X.xe s := by
    refine wpAny_call (codeAny_call_builtin PySem.F.slot_tuple_iterator_ne.plain PySem.F.cmpEntry_ne (PySem.W.check_slot PySem.F.cmpKind_ne PySem.F.cmpSplit_ne sub (PySem.F.cmpArgs_ne _ _) ?_))
    refine ne_run r1.units0 kin K1 hs hf (thn (run_eq F hb r1 rfl I q) ?_)
    rintro w s' ⟨z, H', I', rz, k, rfl, qk⟩
    cases rz
    exact ⟨k, rfl, (fun z => by cases z), .bl (!k), H', I', rfl, qk⟩
  have one : wpAny (model X.prog X.w) X.A (tryCompare (.ref a) "__ne__" (.ref b)) (fun r s' => ∃ v, r = some v ∧ EP X pins σ Q v s') X.xe s := by
    unfold tryCompare
    refine wpAny_bind ?_
    simp only [callSpecialIfBound?, bindSpecialIfBound?]
    have bi : PySem.W.Looks (model X.prog X.w) s.heap (bindSpecial (.builtin "object.__ne__") (.ref a)) (.builtin "object.__ne__", [.ref a]) := PySem.W.Looks.of_pure (PySem.F.slot_tuple_iterator_ne.bind _)
    have last : wpAny (model X.prog X.w) X.A (call (.builtin "object.__ne__") ([.ref a] ++ [.ref b]) >>= fun v => pure (some v)) (fun r s' => wpAny (model X.prog X.w) X.A (match r with | some .notImplemented => pure none | none => pure none | some v => pure (some v)) (fun r s' => ∃ v, r = some v ∧ EP X pins σ Q v s') X.xe s') X.xe s := by
      refine wpAny_bind (thn go ?_)
      rintro v s' ⟨nv, ev⟩
      refine wpAny_pure ?_
      cases v <;> first | exact absurd rfl nv | exact wpAny_pure ⟨_, rfl, ev⟩
    refine wpAny_holding (wpAny_bind (wpAny_bind (wpAny_bind (K1.type.here ((PySem.W.looks_findIn kin hn).here ?_)))))
    refine wpAny_bind (wpAny_askSetting (wpAny_ite ?_))
    split
    · exact wpAny_bind (bi.here (wpAny_pure (by exact last)))
    · exact wpAny_tryCatch (wpAny_bind (bi.here (wpAny_pure (by exact last))))
  show wpAny (model X.prog X.w) X.A (richCompare .NotEq (.ref a) (.ref b)) _ _ s
  unfold richCompare
  simp only [oneThing_ref]
  refine wpAny_holding (wpAny_bind (wpAny_cRoomFor hr.units0 ?_))
  refine wpAny_bind (K1.type.here (wpAny_bind (K2.type.here ?_)))
  have e0 : (Value.ref C != Value.ref C) = false := by simp
  rw [e0]
  simp only [Bool.false_eq_true, if_false]
  refine wpAny_bind (wpAny_pure ?_)
  simp only [Bool.false_eq_true, if_false]
  refine wpAny_bind (wpAny_mono one ?_ fun _ _ z => z)
  rintro r s' ⟨v, rfl, q'⟩
  exact wpAny_pure q'
end
end My

namespace My
open PySem PySem.Spec PyProof.Rows L2
/-! ### promises where no repr is under way -/
/-- a promise of the def at f, for surroundings in which nothing is being shown -/
structure FnG (P : Program) (w : World) (K : PySem.W.Frag) (mg : Str → Option Value) (base : Heap) (k : Nat) (f : Addr) (fd : FuncData) (ps : List Str) (sp : Sp) : Prop where
  len : ∀ vs H Q E, sp vs H Q E → vs.length = ps.length
  run : ∀ (A : Around) (outer : List Env) (s : Shared) (H : Hp) (args : Args) (us : List Value) (vs : List V) (Q : VK) (E : XK), A.guards = some [] → Room k A → Env0 P w K mg base A outer s H → BindsTo s fd args (ps.zip us) → Vals vs us → sp vs H Q E →
    codeAny (model P w) A (.call (.ref f) args) (CR CX0 outer P w H s Q E) s
section
variable {P : Program} {w : World} {K : PySem.W.Frag} {mg : Str → Option Value} {base : Heap}
theorem FnG.by_body {x qual : Str} {st : Stmt} {f : Addr} {fd : FuncData} {N ps : List Str} {k : Nat} {sp : Sp} (F : Fun K x qual st f fd) (S : FnScope N ps (defScope st)) (len : ∀ vs H Q E, sp vs H Q E → vs.length = ps.length)
    (body : ∀ (cdv : Value) (A : Around) (outer : List Env) (s : Shared) (H : Hp) (vs : List V) (Q : VK) (E : XK), A.guards = some [] → Room k (A.deeper (envOfC qual (defScope st) s.heap.objs.size f cdv)) → sp vs H Q E →
      ∃ t, PSs (cxOf CX0 P w K mg base N qual (defScope st) f cdv A outer s H E).nox (defBody st) t ∧ t { nx := fun _ H' => Q .non H', rt := Q } (start N vs) H) : FnG P w K mg base (k + 1) f fd ps sp := by
  obtain ⟨_, _, _, _, _, _, cdv, _, _, rfl, look, code⟩ := F.ex
  constructor
  · exact len
  intro A outer s H args us vs Q E hg hr e0 hb rel hsp
  have n := len _ _ _ _ hsp
  have old : ∀ b o, base.get? b = some o → s.heap.get? b = some o := fun b o e => (e0.bs b o e).1
  have inK : K.In s.heap := e0.mod.kin.keeps old
  obtain ⟨t, ht, q⟩ := body cdv A outer s H vs Q E hg (hr.deeper _) hsp
  have named : ∀ y ∈ ps.zip us, (defScope st).names.lookup y.1 = some .local ∨ ((defScope st).names.lookup y.1 = some .cell ∧ ((cellsFrom (s.heap.objs.size + 1) (defScope st).names []).lookup y.1).isSome = true) := by
    rintro ⟨m, v⟩ hy
    exact (S.par m (List.of_mem_zip hy).1).imp (fun z => z) fun z => ⟨z, PySem.W.cellsFrom_some _ _ _ (.inl z)⟩
  refine codeAny_call_function hr.depth (inK _ _ look) rfl S.co S.gen rfl (PySem.W.codeRec_of inK code) (hb _ _ _ _ (wpAny_newFunctionEnv_cells S.kind named fun env he s1 z => ?_))
  subst he
  refine ⟨(e0.mod.nolimit.keeps old).keeps z.toInCall.keep, codeAny_func (wpAny_mono (ht.nox.run [] s1 (start N vs) H _ (inv_start S hr.hd e0 n rel z) q) ?_ fun _ _ h => h)⟩
  intro fl s' h
  match fl, h with
  | .ret u, ⟨v, σ', H', J, rv, q'⟩ => exact ⟨v, H', J.os, J.bare, J.base, J.hok, rv, q'⟩
  | .next, ⟨σ', H', J, q'⟩ => exact ⟨V.non, H', J.os, J.bare, J.base, J.hok, rfl, q'⟩
  | .brk, ⟨_, _, _, q'⟩ => exact q'.elim
  | .cont, ⟨_, _, _, q'⟩ => exact q'.elim
end
section
variable {X : Cx} {k : Nat} {f : Addr} {fd : FuncData} {ps : List Str} {sp : Sp} {dvs : List V} {ds : List Value} {E : XK} {x : Str} {p pos : Pos} {e : Expr} {es : List Expr} {t : TA}
/-- a call of such a def -/
theorem pe_callG (hA : X.A.guards = some []) (F : FnG X.prog X.w X.K X.mg X.base k f fd ps sp) (hr : Room k X.A) (hg : Gl X x) (hm : X.mg x = some (.ref f)) (hk : PySem.W.keepIn X.K (.ref f) = true) (hb : Binds X.K fd ps ds) (hd : Vals dvs ds) (hx : Passes CX0 X E)
    (ha : PA X (e :: es) t) (hdb : (x == ("__debug__" : Str)) = false := by decide) (he : starEach (e :: es) X.env = (false, eval e X.env) :: starEach es X.env := by rfl) (hpl : (backTo pos (starEach es X.env)).any (·.1) = false := by rfl) :
    PE X (.Call (.Name x p) (e :: es) [] pos) (tCall sp dvs E t) := by
  constructor
  intro pins s σ H Q I h
  refine wpAny_Call_Name_kw (ld_glob I hg hm ?_ hdb)
  refine PySem.W.callWith_K (h₀ := X.base) I.ok.mod.kin hk (thn (ha.run pos pins s σ H _ I h) ?_) he hpl
  rintro us s1 ⟨vs, H1, J, rel, q⟩
  refine ⟨J.kIn, ?_⟩
  have both := rel.append hd
  have n : (us ++ ds).length = ps.length := by rw [← both.length]; exact F.len _ _ _ _ q
  refine wpAny_call (codeAny_mono (F.run X.A X.stack s1 H1 ⟨us, []⟩ (us ++ ds) (vs ++ dvs) Q E hA hr J.env0 (hb s1 us J.kIn n) both q) ?_)
  intro r s' z
  match r, z with
  | .error _, z => exact hx pins σ H1 s1 _ s' J z
  | .ok (.ret _), z => exact J.after z
/-- repr of data -/
def rRepr (K : PySem.W.Frag) : List V → Hp → VK → Prop := fun xs H Q => ∃ (a : Addr) (d : PyData), xs = [.ref a] ∧ Dp K H (.ref a) d ∧ d.showable = true ∧ d.hasDict = false ∧ d.depth ≤ 60 ∧ d.shown.length ≤ sizeLine ∧ Q (.str d.shown) H
theorem call_repr (hA : X.A.guards = some []) (hu : X.A.units + 64 < cLine) : CallR X (.builtin "repr") (rRepr X.K) := by
  rintro pins s σ H xs us Q I r ⟨a, d, rfl, hd, hs, hn, hz, hl, q⟩
  obtain ⟨u, rfl, rx⟩ := vals1 r
  cases rx
  obtain ⟨as, rd⟩ := Dp.reads I d (.ref a) (.ref a) hd rfl
  exact repr_of_reads' rd hs (PyData.noDict_hsm hn) hA (by omega) (fun _ _ e => e) (fun h' u tk hk => ⟨.str d.shown, H, I.kept hk, ⟨_, rfl⟩, q⟩) hl
end
end My
namespace My
open PySem PySem.Spec PyProof.Rows L2
/-! ### the law's call, by such a promise -/
section
variable {P : Program} {w : World} {K : PySem.W.Frag} {mg mb : Str → Option Value} {k : Nat} {fa a : Addr} {fd : FuncData} {x : Str} {sp : Sp} {s₁ : Shared} {vs : List Value} {ns : List Int}
/-- with H tracked: nothing but the script, and not even this where it is the module's own -/
theorem law_with (KX : K.In s₁.heap) (hns : s₁.heap.Ns mainGlobals mg) (hb : s₁.heap.Ns builtinsNs mb) (hbb : ∀ x : Str, x ≠ "__name__" → mb x = bootBuiltins x) (hlim : s₁.heap.NoLimit) (hg : s₁.gens = #[])
    (ha : s₁.heap.get? a = some { cls := .type "list", data := .seq vs.toArray }) (hr : Room k callerA)
    (F : ∀ base : Heap, K.In base → base.Ns mainGlobals mg → FnG P w K mg base k fa fd [x] sp) (hbind : ∀ (s : Shared) (u : Value), BindsTo s fd ⟨[u], []⟩ [(x, u)])
    {H : Hp} (off : ∀ b, b ≠ a → H b = none) (own : K.lookup a ≠ none → H a = none) (frz : ∀ u, H a = some u → ∃ ob xs, u = .frz ob (.lst xs)) (hok : HOk P w H s₁.heap)
    (hsp : sp [.ref a] H (fun v _ => v = .bl true) fun _ _ _ => False) :
    codeAny (model P w) callerA (.call (.ref fa) ⟨[.ref a], []⟩) (fun r s' => r = .ok (.ret (.bool true)) ∧ OldK s₁.heap s'.heap ∧ s'.os = s₁.os ∧ AllBare s'.gens) s₁ := by
  have stays : ∀ {b : Addr} {o : Obj}, s₁.heap.get? b = some o → b ≠ a → (hidT s₁.heap H).get? b = some o := fun e n => hidT_get e (off _ n)
  have dicts : ∀ {b : Addr} {o : Obj} {es : Array DictEntry} {n : Nat}, s₁.heap.get? b = some o → o.data = .dict es n → b ≠ a := by
    rintro b o es n e d rfl
    rw [ha] at e
    cases e
    cases d
  have tables : ∀ {b : Addr} {m : Str → Option Value}, s₁.heap.Ns b m → (hidT s₁.heap H).Ns b m := fun {b m} h => by
    obtain ⟨o, es, n, e, d, r⟩ := h
    exact ⟨o, es, n, stays e (dicts e d), d, r⟩
  have inK : K.In (hidT s₁.heap H) := fun b o e => by
    by_cases z : b = a
    · subst z
      exact hidT_get (KX _ _ e) (own (by rw [e]; simp))
    · exact stays (KX _ _ e) z
  obtain ⟨mc, l1, l2⟩ := hlim
  have e0 : Env0 P w K mg (hidT s₁.heap H) callerA [] s₁ H :=
    ⟨rfl, ⟨inK, tables hns, ⟨mb, tables hb, hbb⟩, mc, tables l1, l2⟩, fun b o e => of_hidT e, Nat.le_of_eq (hidT_size _ _), trivial, fun b hb => absurd (show b ∈ ([] : List Addr) from hb) (by simp), hok, .of_eq hg⟩
  have run := (F _ inK (tables hns)).run callerA [] s₁ H ⟨[.ref a], []⟩ [.ref a] [.ref a] _ _ rfl hr e0 (hbind s₁ (.ref a)) (.cons rfl .nil) hsp
  refine codeAny_mono run ?_
  intro r s' h
  match r, h with
  | .error _, h => exact False.elim h
  | .ok (.ret u), ⟨v, H', os, bare, un, hok', rv, q⟩ =>
    have q' : v = .bl true := q
    subst q'
    obtain rfl : u = Value.bool true := rv
    refine ⟨rfl, OldK.of_keep fun b o e => ?_, os, bare⟩
    cases z : H b with
    | none => exact un.keep b o e z (fun y => absurd (show b ∈ ([] : List Addr) from y) (by simp)) (by simp)
    | some u =>
      have ba : b = a := Classical.byContradiction fun y => by rw [off b y] at z; cases z
      subst ba
      obtain ⟨ob, xs, rfl⟩ := frz u z
      obtain ⟨e1, _⟩ := hok b _ z
      obtain ⟨e2, _⟩ := hok' b _ (un.frzs b ob _ z)
      rw [e] at e1
      cases e1
      exact e2
theorem law_callG (KX : K.In s₁.heap) (hns : s₁.heap.Ns mainGlobals mg) (hb : s₁.heap.Ns builtinsNs mb) (hbb : ∀ x : Str, x ≠ "__name__" → mb x = bootBuiltins x) (hlim : s₁.heap.NoLimit) (hg : s₁.gens = #[])
    (ha : s₁.heap.get? a = some { cls := .type "list", data := .seq vs.toArray }) (hi : IntsAre vs ns) (hl : ns.length ≤ sizeLine) (hr : Room k callerA)
    (F : ∀ base : Heap, K.In base → base.Ns mainGlobals mg → FnG P w K mg base k fa fd [x] sp) (hbind : ∀ (s : Shared) (u : Value), BindsTo s fd ⟨[u], []⟩ [(x, u)])
    (hsp : ∀ H : Hp, SqL K H a (ns.map V.int) → sp [.ref a] H (fun v _ => v = .bl true) fun _ _ _ => False) :
    codeAny (model P w) callerA (.call (.ref fa) ⟨[.ref a], []⟩) (fun r s' => r = .ok (.ret (.bool true)) ∧ OldK s₁.heap s'.heap ∧ s'.os = s₁.os ∧ AllBare s'.gens) s₁ := by
  have rel := vals_ints hi
  by_cases hk : K.lookup a = none
  · let it : HO := .frz { cls := .type "list", data := .seq vs.toArray } (.lst (ns.map V.int))
    have there : upd (fun _ => none) a it a = some it := upd_same
    refine law_with KX hns hb hbb hlim hg ha hr F hbind (H := upd (fun _ => none) a it) (fun b n => upd_ne n) (fun z => absurd hk z) (fun u e => ?_) (fun b u e => ?_) (hsp _ (.inl (.inr ⟨_, there⟩)))
    · rw [there] at e
      cases e
      exact ⟨_, _, rfl⟩
    · by_cases z : b = a
      · subst z
        rw [there] at e
        cases e
        exact ⟨ha, by rw [List.length_map]; exact hl, vs, _, rel, ha⟩
      · rw [upd_ne z] at e
        cases e
  · obtain ⟨o, ho⟩ := Option.ne_none_iff_exists'.mp hk
    have e := KX a o ho
    rw [ha] at e
    cases e
    refine law_with KX hns hb hbb hlim hg ha hr F hbind (H := fun _ => none) (fun b n => rfl) (fun _ => rfl) (fun u e => by cases e) (fun b u e => by cases e) (hsp _ (.inr ⟨_, vs.toArray, _, ho, rfl, rfl, rfl, by rw [List.size_toArray, hi.length]; exact hl, by simpa using rel⟩))
theorem walk_ofG {l : PySem.W.OpenLaw} {n k : Nat} {q : Program} {loose : List Str} {XP : (Str → Option Value) → Heap → Prop} {YP : World → Heap → Prop} {d : DefRec} {K : Params → PySem.W.Frag} {sp : World → Sp} {x : Str}
    (hn : l.most = some n) (hn2 : n ≤ sizeLine) (hdf : d.params.defaults = []) (hr : Room k callerA) (hY : ∀ (w : World) (h : Heap), YP w h → (K w.params).In h)
    (F : ∀ (w : World) (mg : Str → Option Value) (fa : Addr) (h : Heap), (K w.params).In h → h.Ns mainGlobals mg → mg d.name = some (.ref fa) →
      ∃ fd : FuncData, (∀ (s : Shared) (u : Value), BindsTo s fd ⟨[u], []⟩ [(x, u)]) ∧ ∀ base : Heap, (K w.params).In base → base.Ns mainGlobals mg → FnG l.prog w (K w.params) mg base k fa fd [x] (sp w))
    (hsp : ∀ (w : World) (H : Hp) (a : Addr) (ns : List Int), ns.length ≤ n → SqL (K w.params) H a (ns.map V.int) → sp w [.ref a] H (fun v _ => v = .bl true) fun _ _ _ => False) :
    PySem.W.WalkO q loose XP YP l.row.toRowW d [] (fun f vs => PySem.call f vs) := by
  refine Att.attach_call hn hdf fun w s₀ s₁ mg mb fa o pm cd doc a vs ns G Y ho hd hcd hmg hobj hints hlen hg => ?_
  have KX := hY w _ Y
  obtain ⟨fd, hb, hF⟩ := F w mg fa _ KX G.T.g hmg
  exact law_callG KX G.T.g G.T.b G.T.builtins G.T.nolimit hg hobj hints (Nat.le_trans hlen hn2) hr hF hb fun H hS => hsp w H a ns hlen hS
end
end My

namespace My
open PySem PySem.Spec PyProof.Rows L2
section
variable {X : Cx}
/-- repr of data, whatever its kind -/
def rReprA (K : PySem.W.Frag) : List V → Hp → VK → Prop := fun xs H Q => ∃ (x : V) (d : PyData), xs = [x] ∧ Dp K H x d ∧ d.showable = true ∧ d.hasDict = false ∧ d.depth ≤ 60 ∧ d.shown.length ≤ sizeLine ∧ Q (.str d.shown) H
theorem call_reprA (hA : X.A.guards = some []) (hu : X.A.units + 64 < cLine) : CallR X (.builtin "repr") (rReprA X.K) := by
  rintro pins s σ H xs us Q I r ⟨x, d, rfl, hd, hs, hn, hz, hl, q⟩
  obtain ⟨u, rfl, rx⟩ := vals1 r
  cases hd with
  | non =>
    cases rx
    exact PySem.P.repr_of_none ⟨.str _, H, I.tok _, ⟨_, rfl⟩, q⟩
  | bl b =>
    obtain ⟨t, rfl⟩ := rx
    exact PySem.P.repr_of_bool ⟨.str _, H, I.tok _, ⟨_, rfl⟩, q⟩
  | int i =>
    obtain ⟨t, rfl⟩ := rx
    exact PySem.P.repr_of_int (by simpa [PyData.showable] using hs) ⟨.str _, H, I.tok _, ⟨_, rfl⟩, q⟩
  | str z =>
    obtain ⟨t, rfl⟩ := rx
    exact PySem.P.repr_of_str ⟨.str _, H, I.tok _, ⟨_, rfl⟩, q⟩ hl
  | lst h1 h2 =>
    cases rx
    obtain ⟨as, rd⟩ := Dp.reads I _ _ _ (.lst h1 h2) rfl
    exact repr_of_reads' rd hs (PyData.noDict_hsm hn) hA (by omega) (fun _ _ e => e) (fun h' u tk hk => ⟨.str _, H, I.kept hk, ⟨_, rfl⟩, q⟩) hl
  | tup h1 h2 =>
    cases rx
    obtain ⟨as, rd⟩ := Dp.reads I _ _ _ (.tup h1 h2) rfl
    exact repr_of_reads' rd hs (PyData.noDict_hsm hn) hA (by omega) (fun _ _ e => e) (fun h' u tk hk => ⟨.str _, H, I.kept hk, ⟨_, rfl⟩, q⟩) hl
end
/-- none, or a whole number, shown -/
theorem data_opt {d : PyData} (h : d = .none ∨ ∃ i : Int, d = .int i ∧ i.natAbs < 2 ^ 1900) : d.showable = true ∧ d.hasDict = false ∧ d.depth ≤ 60 ∧ d.shown.length ≤ sizeLine := by
  rcases h with rfl | ⟨i, rfl, hi⟩
  · refine ⟨?_, ?_, ?_, ?_⟩ <;> first | rfl | decide +kernel
  · have l1 : i.natAbs.log2 < 1920 := Nat.lt_of_lt_of_le (PySem.Flt.log2_lt_of (by decide) hi) (by decide)
    have s1 : (PyData.shown (.int i)).length ≤ 1921 := PyProof.Rows.int_text_len_1921 l1
    refine ⟨?_, ?_, ?_, ?_⟩
    · simpa only [PyData.showable, decide_eq_true_eq] using l1
    · simp [PyData.hasDict]
    · simp [PyData.depth]
    · exact Nat.le_trans s1 (by decide)
end My

namespace My
open PySem L2
/-- two numbers, shown -/
theorem short_two {a b : Int} (ha : a.natAbs < 2 ^ 1900) (hb : b.natAbs < 2 ^ 1900) : (PyData.shown (.tuple [.int a, .int b])).length ≤ sizeLine := by
  have l1 : a.natAbs.log2 < 1920 := Nat.lt_of_lt_of_le (PySem.Flt.log2_lt_of (by decide) ha) (by decide)
  have l2 : b.natAbs.log2 < 1920 := Nat.lt_of_lt_of_le (PySem.Flt.log2_lt_of (by decide) hb) (by decide)
  have s1 : (PyData.shown (.int a)).length ≤ 1921 := PyProof.Rows.int_text_len_1921 l1
  have s2 : (PyData.shown (.int b)).length ≤ 1921 := PyProof.Rows.int_text_len_1921 l2
  have short : (PyData.tuple [.int a, .int b]).leavesShort 1921 = true := by
    simp only [PyData.leavesShort, PyData.leavesShortAll, Bool.and_true, Bool.and_eq_true, decide_eq_true_eq]
    exact ⟨s1, s2⟩
  have le := PyData.shown_le 1921 (by decide) _ short
  have wt : (PyData.tuple [.int a, .int b]).weight ≤ 4000 := by
    simp only [PyData.weight, PyData.weightAll]
    have wt1 : ∀ i : Int, i.natAbs.log2 < 1920 → (if (i == 0) = true then 0 else i.natAbs.log2 + 1) ≤ 1920 := fun i h => by split <;> omega
    have wa := wt1 a l1
    have wb := wt1 b l2
    omega
  have e : sizeLine = 16777216 := rfl
  omega
theorem data_two {a b : Int} (ha : a.natAbs < 2 ^ 1900) (hb : b.natAbs < 2 ^ 1900) : (PyData.tuple [.int a, .int b]).showable = true ∧ (PyData.tuple [.int a, .int b]).hasDict = false ∧ (PyData.tuple [.int a, .int b]).depth ≤ 60 := by
  refine ⟨?_, ?_, ?_⟩
  · have l1 : a.natAbs.log2 < 1920 := Nat.lt_of_lt_of_le (PySem.Flt.log2_lt_of (by decide) ha) (by decide)
    have l2 : b.natAbs.log2 < 1920 := Nat.lt_of_lt_of_le (PySem.Flt.log2_lt_of (by decide) hb) (by decide)
    simp only [PyData.showable, PyData.showableAll, Bool.and_true, Bool.and_eq_true, decide_eq_true_eq]
    exact ⟨l1, l2⟩
  · simp [PyData.hasDict, PyData.hasDictAll]
  · simp [PyData.depth, PyData.depthAll]
end My

namespace My
open PySem PySem.Spec PyProof.Rows L2 PySem.Builtin PySem.Builtin.Str
/-! ### str(x) of an object with an own __str__ -/
section
variable {P : Program} {w : World} {A : Around} {E : Value → Shared → Prop} {s : Shared} {K : PySem.W.Frag} {a C f : Addr} {ox : Obj} {od : Option Obj}
/-- an own special method, called -/
theorem special_own {name : Str} {xs : List Value} {R : Option Value → Shared → Prop} (X : K.In s.heap) (I : PySem.W.InstAt s.heap a ox C od) (hs : PySem.W.findIn K (.ref C) name = some (some (.ref f))) (hf : PySem.W.isFn K (.ref f) = true)
    (go : wpAny (model P w) A (call (.ref f) (.ref a :: xs)) (fun v => R (some v)) E s) : wpAny (model P w) A (callSpecial? (.ref a) name xs) R E s := by
  unfold callSpecial? specialOf
  refine wpAny_bind (wpAny_bind (I.type.here ((PySem.W.looks_findIn X hs).here (wpAny_holding (wpAny_bind ?_)))))
  refine (PySem.W.bind_fn X _ (beq_iff_eq.mp hf)).here ?_
  exact wpAny_bind (wpAny_mono go (fun v s' q => wpAny_pure q) fun _ _ q => q)
/-- str(v), where the text is told -/
theorem str_call {v : Value} {R : Value → Shared → Prop} (go : wpAny (model P w) A.in1.in1 (strOf v) (fun r t => t.TypeIs r "str" ∧ R r t) E s) : wpAny (model P w) A (call (.type "str") [v]) R E s := by
  have ft := PySem.F.called_str
  obtain ⟨c, tl, m1⟩ := ft.mro
  have m2 := ft.made
  have m3 := ft.sub
  refine wpAny_call (codeAny_of_tree ?_)
  show wpAny _ _ (callAny (.type "str") _) _ _ _
  refine wpAny_pure ⟨Code.quiet_builtin _ (by decide +kernel), codeAny_builtin PySem.F.entry_type_call ?_⟩
  rw [Around.under_plain (weight_type_call_type "str" [v] []) (units_type_call_type "str" [v] [])]
  have n1 := ft.notType
  have n2 := ft.canCreate
  have n3 := PySem.F.typeCall_str_1 v
  repeat (any_goals (first | assumption | wp_step))
  have body : wpAny (model P w) A.in1.in1 («str.__new__» ⟨[.type "str", v], []⟩) (fun fin t => ∃ r, fin = .done (.ret r) ∧ t.TypeIs r "str" ∧ R r t) E s := by
    rw [str_new_tree v]
    refine wpAny_bind (wpAny_pure (wpAny_bind (wpAny_of_eq isSubtype_str_str ?_)))
    exact wpAny_bind (wpAny_mono go (fun r t q => wpAny_pure ⟨r, rfl, q⟩) fun _ _ q => q)
  refine codeAny_mono (codeAny_call_builtin ft.plain PySem.F.entry_str_new (wpAny_of_eq (PySem.F.newCall_str_1 v) (wpAny_mono body (fun fin t q => ?_) fun e t q => ?_))) (R := fun r t => (∃ x, r = .ok (.ret x) ∧ t.TypeIs x "str" ∧ R x t) ∨ (∃ e, r = .error e ∧ E e t)) fun r t q => ?_
  · obtain ⟨r, rfl, q1⟩ := q
    exact .inl ⟨r, rfl, q1⟩
  · exact .inr ⟨e, rfl, q⟩
  · rcases q with ⟨x, rfl, ty, q1⟩ | ⟨e, rfl, q1⟩
    · have i1 := ft.init.lookup
      have i2 := ft.init.bind x
      repeat (any_goals (first | assumption | wp_step))
      refine codeAny_mono (codeAny_call_builtin ft.init.plain PySem.F.entry_object_init (ft.init.check _ _ _ _ _ _ _ _ ty (PySem.F.args_object_init_2 x _) (object_init_meets (rest := [v]) ft.init.lookup ft.made (by decide) P w A.in1 (fun r t' => r = .ok (.ret .none) ∧ R x t') t ⟨ty, rfl, q1⟩))) (R := fun r t' => r = .ok (.ret .none) ∧ R x t') fun r2 t2 q2 => ?_
      obtain ⟨rfl, q3⟩ := q2
      repeat (any_goals (first | assumption | wp_step))
    · exact q1
end
section
variable {X : Cx} {C f : Addr} {fd : FuncData} {ps : List Str} {n : Nat} {sp : Sp}
theorem run_one {A : Around} {pins : List (Addr × Obj)} {σ : L2.St} {H : Hp} {s : Shared} {a : Addr} {Q : VK} {E : XK} (F : FnOk X.prog X.w X.K X.mg X.base CX0 n f fd ps sp) (hb : Binds X.K fd ps []) (hr : Room n A) (hfr : A.frames = X.A.frames)
    (I : Inv X pins σ H s) (h : sp [.ref a] H Q E) : wpAny (model X.prog X.w) A (call (.ref f) [.ref a]) (EP X pins σ Q) X.xe s := by
  have w0 := I.env0
  have w1 : Env0 X.prog X.w X.K X.mg X.base A X.stack s H := ⟨hfr.trans w0.frames, w0.mod, w0.bs, w0.bsz, w0.funs, w0.frf, w0.hok, w0.bare⟩
  have len1 : 1 = ps.length := F.len _ _ _ _ h
  have bnd : BindsTo s fd ⟨[.ref a], []⟩ (ps.zip [.ref a]) := by
    have q := hb s [.ref a] I.kIn (by simpa using len1)
    simpa using q
  refine wpAny_call (codeAny_mono (F.run A X.stack s H ⟨[.ref a], []⟩ [.ref a] [.ref a] Q E hr w1 bnd (.cons rfl .nil) h) ?_)
  intro r s' z
  match r, z with
  | .error _, z => exact z.elim
  | .ok (.ret u), z => exact I.after z
def rStrOwn (C : Addr) (sp : Sp) : List V → Hp → VK → Prop := fun xs H Q => ∃ (a dx : Addr) (fs : List (Str × V)), xs = [.ref a] ∧ H a = some (.ins C dx fs) ∧ sp [.ref a] H (fun v H' => ∃ k : Str, v = .str k ∧ Q (.str k) H') E0
theorem call_strOwn (F : FnOk X.prog X.w X.K X.mg X.base CX0 n f fd ps sp) (hs : PySem.W.findIn X.K (.ref C) "__str__" = some (some (.ref f))) (hf : PySem.W.isFn X.K (.ref f) = true) (hb : Binds X.K fd ps []) (hr : Room (n + 2) X.A) :
    CallR X (.type "str") (rStrOwn C sp) := by
  rintro pins s σ H xs us Q I r ⟨a, dx, fs, rfl, ha, q⟩
  obtain ⟨u, rfl, rx⟩ := vals1 r
  cases rx
  obtain ⟨_, J1, _⟩ := ins_get I.hok ha
  obtain ⟨_, K1, _⟩ := J1.look
  have r2 : Room n X.A.in1.in1 := hr.in1.in1
  refine str_call ?_
  unfold PySem.Builtin.Str.strOf
  refine wpAny_bind (m := cRoomFor _ _) (wpAny_cRoomFor r2.units0 ?_)
  refine wpAny_bind (m := callSpecial? (.ref a) (Str.ofString "__str__") _) (special_own I.kIn K1 hs hf (thn (run_one F hb r2 rfl I q) ?_))
  rintro v s' ⟨z, H', I', rz, k, rfl, qk⟩
  obtain ⟨tk, rfl⟩ := rz
  exact wpAny_pure ⟨typeIs_str _ _ _, .str k, H', I', ⟨_, rfl⟩, qk⟩
end
end My

namespace My
open PySem PySem.Spec PyProof.Rows L2 PySem.Builtin
/-! ### repr of a pair of objects with an own __repr__ -/
theorem tup_depth {A : Around} {us : List Value} : (A.under (.builtin "tuple.__repr__" ⟨us, []⟩)).depth ≤ A.depth + 1 ∧ (A.under (.builtin "tuple.__repr__" ⟨us, []⟩)).handled = A.handled ∧ (A.under (.builtin "tuple.__repr__" ⟨us, []⟩)).frames = A.frames := by
  refine ⟨?_, ?_, ?_⟩
  · simp [Around.under, Code.weight, Code.isCreation, Code.isGuard, Code.isCaller, Code.frames, Code.isFrame]
    try (split <;> omega)
  · first | rfl | simp [Around.under]
  · first | rfl | simp [Around.under, Code.envs, pushEnvs]
theorem room_tup {n : Nat} {A : Around} {us : List Value} (r : Room (n + 1) A) : Room n (A.under (.builtin "tuple.__repr__" ⟨us, []⟩)) := by
  obtain ⟨d, h, _⟩ := @tup_depth A us
  refine ⟨h.trans r.hd, ?_, ?_⟩
  · have := r.dp; omega
  · have := r.un
    rw [units_under_tuple_repr]
    omega
section
variable {P : Program} {w : World} {A : Around} {E : Value → Shared → Prop} {s : Shared} {K : PySem.W.Frag} {a C f : Addr} {ox : Obj} {od : Option Obj}
/-- one of them, within its display -/
theorem repr_within {b : Nat} {R : Str → Shared → Prop} (hb : b ≤ sizeLine) (hu : A.units < cLine) (X : K.In s.heap) (I : PySem.W.InstAt s.heap a ox C od) (hs : PySem.W.findIn K (.ref C) "__repr__" = some (some (.ref f))) (hf : PySem.W.isFn K (.ref f) = true)
    (go : wpAny (model P w) A (call (.ref f) [.ref a]) (fun v t => ∃ z u, v = .str z u ∧ R z t) E s) : wpAny (model P w) A (pyReprUnder b (.ref a)) R E s := by
  refine wpAny_pyReprUnder_ref hb ?_
  unfold pyReprObjUnder pyReprObjBy
  refine wpAny_bind (wpAny_cRoomFor hu (wpAny_bind ?_))
  have sp : ∀ {B : Option Value → Shared → Prop}, B (some (.ref f)) s → wpAny (model P w) A (specialOf (.ref a) "__repr__") B E s := fun q => by
    unfold specialOf
    exact wpAny_bind (I.type.here ((PySem.W.looks_findIn X hs).here q))
  refine sp ?_
  show wpAny _ _ (if (some (Value.ref f)).isNone = true then _ else _) _ _ _
  rw [if_neg (by simp)]
  have last : wpAny (model P w) A (callSpecialIfBoundBy? (fun g first => match reprUnder? g, first with
      | some twin, [self] => call twin [self, rawInt b]
      | _, _ => call g (first ++ [])) (.ref a) "__repr__") (fun r t => ∃ z u, r = some (.str z u) ∧ R z t) E s := by
    have fin : wpAny (model P w) A (call (.ref f) ([.ref a] ++ []) >>= fun v => pure (some v)) (fun r t => ∃ z u, r = some (.str z u) ∧ R z t) E s :=
      wpAny_bind (wpAny_mono go (fun v t q => by
        obtain ⟨z, u, rfl, q⟩ := q
        exact wpAny_pure ⟨z, u, rfl, q⟩) fun _ _ q => q)
    simp only [callSpecialIfBoundBy?, bindSpecialIfBound?]
    refine wpAny_holding (wpAny_bind (wpAny_bind (sp ?_)))
    refine wpAny_bind (wpAny_askSetting (wpAny_ite ?_))
    have bd := PySem.W.bind_fn (M := model P w) X (.ref a) (beq_iff_eq.mp hf)
    split
    · exact wpAny_bind (bd.here (wpAny_pure (by exact fin)))
    · exact wpAny_tryCatch (wpAny_bind (bd.here (wpAny_pure (by exact fin))))
  refine wpAny_bind (wpAny_mono last (fun r t q => ?_) fun _ _ q => q)
  obtain ⟨z, u, rfl, q⟩ := q
  exact wpAny_bind (wpAny_isInstance (typeIs_str _ _ _) isSubtype_str_str (wpAny_pure ⟨z, u, rfl, q⟩))
end
section
variable {X : Cx} {C f : Addr} {fd : FuncData} {ps : List Str} {n : Nat} {sp : Sp}
def rRepr2 (C : Addr) (K : PySem.W.Frag) (sp : Sp) : List V → Hp → VK → Prop := fun xs H Q => ∃ (p a b dx dy : Addr) (fs gs : List (Str × V)) (y z : Str), xs = [.ref p] ∧ SqT K H p [.ref a, .ref b] ∧ H a = some (.ins C dx fs) ∧ H b = some (.ins C dy gs) ∧ y.length ≤ 10000 ∧ z.length ≤ 10000 ∧
  (∀ R : VK, R (.str y) H → sp [.ref a] H R E0) ∧ (∀ R : VK, R (.str z) H → sp [.ref b] H R E0) ∧ Q (.str (tupleText [y, z])) H
theorem call_repr2 (hA : X.A.guards = some []) (F : FnOk X.prog X.w X.K X.mg X.base CX0 n f fd ps sp) (hs : PySem.W.findIn X.K (.ref C) "__repr__" = some (some (.ref f))) (hf : PySem.W.isFn X.K (.ref f) = true) (hb : Binds X.K fd ps []) (hr : Room (n + 2) X.A) :
    CallR X (.builtin "repr") (rRepr2 C X.K sp) := by
  rintro pins s σ H xs us Q I r ⟨p, a, b, dx, dy, fs, gs, y, z, rfl, hp, ha, hb', ly, lz, pa, pb, q⟩
  obtain ⟨u, rfl, rx⟩ := vals1 r
  cases rx
  obtain ⟨its, rv, ⟨o, ho, hc, m, hd⟩, _⟩ := I.tuple hp
  obtain ⟨u1, u2, rfl, r1, r2⟩ := vals2 rv
  cases r1
  cases r2
  have ty : s.TypeIs (.ref p) "tuple" := ⟨o, ho, hc⟩
  have rA : Room (n + 1) X.A.in1 := hr.in1
  have rT : Room n (X.A.in1.under (.builtin "tuple.__repr__" ⟨[.ref p], []⟩)) := room_tup rA
  obtain ⟨_, _, fr⟩ := @tup_depth X.A.in1 [.ref p]
  have sl : sizeLine = 16777216 := rfl
  have one : ∀ (c dc : Addr) (hs' : List (Str × V)) (t : Str) (bs : Nat) (s' : Shared) (R : Str → Shared → Prop), H c = some (.ins C dc hs') → (∀ R : VK, R (.str t) H → sp [.ref c] H R E0) → bs ≤ sizeLine → Inv X pins σ H s' → (∀ s2, Inv X pins σ H s2 → R t s2) →
      wpAny (model X.prog X.w) (X.A.in1.under (.builtin "tuple.__repr__" ⟨[.ref p], []⟩)) (pyReprUnder bs (.ref c)) R X.xe s' := by
    intro c dc hs' t bs s' R hc' pc hbs I' k
    obtain ⟨_, J1, _⟩ := ins_get I'.hok hc'
    obtain ⟨_, K1, _⟩ := J1.look
    refine repr_within hbs rT.units0 I'.kIn K1 hs hf (thn (run_one F hb rT fr I' (pc (fun v H' => v = .str t ∧ H' = H) ⟨rfl, rfl⟩)) ?_)
    rintro v s2 ⟨x, H2, I2, rx, rfl, rfl⟩
    obtain ⟨tk, rfl⟩ := rx
    exact ⟨t, tk, rfl, k s2 I2⟩
  have tlen : (tupleText [y, z]).length ≤ 30000 := by
    show (("(" : Str) ++ (y ++ ", " ++ z) ++ ")").length ≤ 30000
    have e1 : ("(" : Str).length = 1 := rfl
    have e2 : (")" : Str).length = 1 := rfl
    have e3 : (", " : Str).length = 2 := rfl
    rw [Str.length_append, Str.length_append, Str.length_append, Str.length_append]
    omega
  refine call_repr_slot (by have := rA.un; show X.A.in1.units < _; omega) ty PySem.F.slot_tuple_repr ?_
  refine wpAny_call (codeAny_call_builtin_own (Code.quiet_builtin _ (by decide +kernel)) PySem.F.entry_tuple_repr (PySem.F.slot_tuple_repr.check _ _ _ _ _ _ _ _ ty (PySem.F.args_tuple_repr_1 _) ?_))
  show wpOwn _ _ _ (tupleReprAt 0 ⟨[.ref p], []⟩) _ _ s
  rw [tuple_repr_tree, tupleReprUnderWay_eq]
  refine wpOwn_bind (wpOwn_stackTailAny (g := []) hA (tupGuardF_off _) (tupGuardF_pos _) ?_)
  rw [show (([] : List Code).any fun c => tupGuardF (.ref p) (c, default)) = false from rfl]
  refine wpOwn_of_wpAny ?_
  show wpAny _ _ (tupleReprRest 0 (.ref p)) _ _ s
  unfold tupleReprRest Builtin.Tuple.tupleItemsOf
  refine wpAny_bind (wpAny_bind (wpAny_seqItems ho hd (wpAny_pure ?_)))
  rw [← Array.forIn_toList]
  have tp : (tupleText [y, z]) = ("(" : Str) ++ (y ++ ", " ++ z) ++ ")" := rfl
  have fold : ∀ (acc : Array Str) (m0 : Nat) (R : (Array Str × Nat) → Shared → Prop), m0 ≤ 10 → (∀ s2, Inv X pins σ H s2 → R ⟨(acc.push y).push z, m0 + (y.length + 2) + (z.length + 2)⟩ s2) →
      wpAny (model X.prog X.w) (X.A.in1.under (.builtin "tuple.__repr__" ⟨[.ref p], []⟩)) (forIn [Value.ref a, Value.ref b] (⟨acc, m0⟩ : (Array Str × Nat)) tupBody) R X.xe s := by
    intro acc m0 R hm k
    rw [List.forIn_cons]
    refine wpAny_bind (wpAny_bind (one a dx fs y _ s _ ha pa (by omega) I fun s1 I1 => wpAny_pure ?_))
    show wpAny _ _ (forIn [Value.ref b] _ tupBody) _ _ s1
    rw [List.forIn_cons]
    refine wpAny_bind (wpAny_bind (one b dy gs z _ s1 _ hb' pb (by omega) I1 fun s2 I2 => wpAny_pure ?_))
    show wpAny _ _ (forIn ([] : List Value) _ tupBody) _ _ s2
    rw [List.forIn_nil]
    exact wpAny_pure (k s2 I2)
  refine wpAny_bind (fold _ _ _ (by omega) fun s2 I2 => ?_)
  refine wpAny_bind (wpAny_mkStr (wpAny_pure ?_) ?_)
  · exact ⟨_, _, rfl, .str (tupleText [y, z]), H, I2.tok _, ⟨_, rfl⟩, q⟩
  · exact Nat.le_trans tlen (by decide)
end
end My

namespace My
open PySem PySem.Spec PyProof.Rows L2 PySem.Builtin
/-! ### repr of tuples, however deep, of objects with an own __repr__ -/
theorem under_depth {A : Around} {us : List Value} : (A.under (.builtin "tuple.__repr__.under" ⟨us, []⟩)).depth ≤ A.depth + 1 ∧ (A.under (.builtin "tuple.__repr__.under" ⟨us, []⟩)).handled = A.handled ∧ (A.under (.builtin "tuple.__repr__.under" ⟨us, []⟩)).frames = A.frames := by
  refine ⟨?_, ?_, ?_⟩
  · simp [Around.under, Code.weight, Code.isCreation, Code.isGuard, Code.isCaller, Code.frames, Code.isFrame]
    try (split <;> omega)
  · first | rfl | simp [Around.under]
  · first | rfl | simp [Around.under, Code.envs, pushEnvs]
theorem room_under {n : Nat} {A : Around} {us : List Value} (r : Room (n + 1) A) : Room n (A.under (.builtin "tuple.__repr__.under" ⟨us, []⟩)) := by
  obtain ⟨d, h, _⟩ := @under_depth A us
  refine ⟨h.trans r.hd, ?_, ?_⟩
  · have := r.dp; omega
  · have := r.un
    rw [units_under_tuple_repr_under]
    omega
/-- what is shown, with the tuples within and how deep -/
inductive Shw (K : PySem.W.Frag) (H : Hp) (leaf : Addr → Str → Prop) : V → Str → List Addr → Nat → Prop
  | own {a : Addr} {t : Str} {as : List Addr} {d : Nat} : leaf a t → Shw K H leaf (.ref a) t as d
  | int {i : Int} {as : List Addr} {d : Nat} : i.natAbs.log2 < 1920 → Shw K H leaf (.int i) (PyData.int i).shown as d
  | tup {a : Addr} {xs : List V} {ts : List Str} {as : List Addr} {d : Nat} : SqT K H a xs → ts.length = xs.length → (∀ (i : Nat) (v : V) (t : Str), xs[i]? = some v → ts[i]? = some t → Shw K H leaf v t as d) → a ∉ as → Shw K H leaf (.ref a) (tupleText ts) (a :: as) (d + 1)
section
variable {X : Cx} {C f : Addr} {fd : FuncData} {ps : List Str} {n : Nat} {sp : Sp} {pins : List (Addr × Obj)} {σ : L2.St} {H : Hp}
/-- an object that tells t of itself -/
def OwnT (C : Addr) (sp : Sp) (H : Hp) (a : Addr) (t : Str) : Prop := ∃ (dx : Addr) (fs : List (Str × V)), H a = some (.ins C dx fs) ∧ ∀ R : VK, R (.str t) H → sp [.ref a] H R E0
def ShR (X : Cx) (pins : List (Addr × Obj)) (σ : L2.St) (H : Hp) (as : List Addr) (n : Nat) (u : Value) (t : Str) : Prop := ∀ (base : Nat) (A : Around) (g : List Code) (s : Shared) (R : Str → Shared → Prop), base + t.length ≤ sizeLine → A.guards = some g → (∀ b ∈ as, Clear g b) → Room n A → A.frames = X.A.frames → Inv X pins σ H s →
  (∀ s2, Inv X pins σ H s2 → R t s2) → wpAny (model X.prog X.w) A (pyReprUnder base u) R X.xe s
theorem shr_fold {as : List Addr} {m : Nat} {A : Around} {g : List Code} (hg : A.guards = some g) (hcl : ∀ b ∈ as, Clear g b) (hr : Room m A) (fr : A.frames = X.A.frames) : ∀ (l : List Value) (ts : List Str) (acc : Array Str) (k : Nat) (s : Shared) (R : (Array Str × Nat) → Shared → Prop), ts.length = l.length → (∀ (i : Nat) (u : Value) (t : Str), l[i]? = some u → ts[i]? = some t → ShR X pins σ H as m u t) → k + piled ts ≤ sizeLine → Inv X pins σ H s →
    (∀ s2, Inv X pins σ H s2 → R ⟨acc ++ ts.toArray, k + piled ts⟩ s2) → wpAny (model X.prog X.w) A (forIn l (⟨acc, k⟩ : (Array Str × Nat)) tupBody) R X.xe s
  | [], [], acc, k, s, R, _, _, _, I, q => by
    rw [List.forIn_nil]
    exact wpAny_pure (by simpa [piled] using q s I)
  | [], _ :: _, _, _, _, _, e, _, _, _, _ => by cases e
  | _ :: _, [], _, _, _, _, e, _, _, _, _ => by cases e
  | u :: l, t :: ts, acc, k, s, R, e, hs, hz, I, q => by
    rw [piled_cons] at hz
    rw [List.forIn_cons]
    refine wpAny_bind (wpAny_bind (hs 0 u t rfl rfl (k + 1) A g s _ (by omega) hg hcl hr fr I fun s2 I2 => wpAny_pure ?_))
    refine shr_fold hg hcl hr fr l ts (acc.push t) (k + (t.length + 2)) s2 R (by simpa using e) (fun i u' t' h1 h2 => hs (i + 1) u' t' h1 h2) (by omega) I2 fun s3 I3 => ?_
    have := q s3 I3
    rw [piled_cons] at this
    have ee : k + (t.length + 2) + piled ts = k + (t.length + 2 + piled ts) := by omega
    rw [ee]
    simpa using this
/-- the rest of a tuple's display -/
theorem shr_rest {a : Addr} {xs : List V} {ts : List Str} {as : List Addr} {m base : Nat} {A : Around} {g : List Code} {s : Shared} {id : String} {rest : List Value} {R : Result → Shared → Prop} (I : Inv X pins σ H s) (ha : SqT X.K H a xs) (tl : ts.length = xs.length)
    (hs : ∀ (i : Nat) (v : V) (t : Str), xs[i]? = some v → ts[i]? = some t → ∀ u, RelV v u → ShR X pins σ H as m u t) (na : a ∉ as) (hg : A.guards = some g) (hcl : ∀ b ∈ a :: as, Clear g b)
    (gd : (Code.builtin id ⟨.ref a :: rest, []⟩).isGuard = true) (hr : Room m (A.under (.builtin id ⟨.ref a :: rest, []⟩))) (fr : (A.under (.builtin id ⟨.ref a :: rest, []⟩)).frames = X.A.frames) (hz : base + (tupleText ts).length ≤ sizeLine)
    (q : ∀ s2 u, Inv X pins σ H s2 → R (.ok (.ret (.str (tupleText ts) u))) s2) :
    wpOwn (model X.prog X.w) A (.builtin id ⟨.ref a :: rest, []⟩) (Builtin.tupleReprAt base ⟨[.ref a], []⟩) (fun fin s' => match fin with | .done f => R (.ok f) s' | .again c' => c'.quiet = true ∧ codeAny (model X.prog X.w) A c' R s') (fun e s' => X.xe e s') s := by
  obtain ⟨its, rv, ⟨o, ho, oc, k, od⟩, _⟩ := I.tuple ha
  have hp := piled_le_tupleText ts
  have ne : (g.any fun c => tupGuardF (.ref a) (c, default)) = false := by
    rw [List.any_eq_false]
    intro c hc
    rw [tupGuardF_of_clear (hcl a (List.mem_cons_self ..)) c hc]
    decide
  rw [tuple_repr_tree, tupleReprUnderWay_eq]
  refine wpOwn_bind (wpOwn_stackTailAny hg (tupGuardF_off _) (tupGuardF_pos _) ?_)
  rw [ne]
  refine wpOwn_of_wpAny ?_
  show wpAny _ _ (tupleReprRest base (.ref a)) _ _ s
  unfold tupleReprRest Builtin.Tuple.tupleItemsOf
  refine wpAny_bind (wpAny_bind (wpAny_seqItems ho od (wpAny_pure ?_)))
  rw [← Array.forIn_toList]
  have il : ts.length = its.length := by rw [tl]; exact rv.length
  refine wpAny_bind (shr_fold (guards_under_guard gd hg) (fun b hb => (hcl b (List.mem_cons_of_mem _ hb)).cons (a := a) fun e => na (e ▸ hb)) hr fr _ ts _ _ s _ (by simpa using il) (fun i u t hu ht => ?_) (by omega) I fun s2 I2 => ?_)
  · have hu' : its[i]? = some u := by simpa using hu
    have ix : i < xs.length := by
      have := (List.getElem?_eq_some_iff.mp hu').1
      have := rv.length
      omega
    have hx := List.getElem?_eq_getElem ix
    obtain ⟨u2, hu2, r2⟩ := rv.get hx
    rw [hu'] at hu2
    obtain rfl := Option.some.inj hu2
    exact hs i _ t hx ht u r2
  · refine wpAny_bind (wpAny_mkStr (wpAny_pure ?_) (by
      have : (tupleText ts).length ≤ sizeLine := by omega
      simpa [tupleText, il] using this))
    have := q { s2 with toks := s2.toks + 1 } s2.toks (I2.tok _)
    simpa [tupleText, il] using this
theorem shw_run (F : FnOk X.prog X.w X.K X.mg X.base CX0 n f fd ps sp) (hs : PySem.W.findIn X.K (.ref C) "__repr__" = some (some (.ref f))) (hf : PySem.W.isFn X.K (.ref f) = true) (hb : Binds X.K fd ps []) {v : V} {t : Str} {as : List Addr} {d : Nat}
    (h : Shw X.K H (OwnT C sp H) v t as d) : ∀ u, RelV v u → ShR X pins σ H as (n + d) u t := by
  induction h with
  | @own a t as d h =>
    intro u ru base A g s R hz hg hcl hr fr I q
    cases ru
    obtain ⟨dx, fs, ha, pa⟩ := h
    obtain ⟨_, J1, _⟩ := ins_get I.hok ha
    obtain ⟨_, K1, _⟩ := J1.look
    have hr' : Room n A := hr.mono (by omega)
    refine repr_within (by omega) hr'.units0 I.kIn K1 hs hf (thn (run_one F hb hr' fr I (pa (fun v H' => v = .str t ∧ H' = H) ⟨rfl, rfl⟩)) ?_)
    rintro v s2 ⟨x, H2, I2, rx, rfl, rfl⟩
    obtain ⟨tk, rfl⟩ := rx
    exact ⟨t, tk, rfl, q s2 I2⟩
  | @int i as d hi =>
    intro u ru base A g s R hz hg hcl hr fr I q
    obtain ⟨t, rfl⟩ := ru
    exact ReprIs.int t hi base hz A X.xe s _ fun tk => q _ (I.tok _)
  | @tup a xs ts as d ha tl hx na ih =>
    intro u ru base A g s R hz hg hcl hr fr I q
    cases ru
    obtain ⟨its, rv, ⟨o, ho, oc, k, od⟩, _⟩ := I.tuple ha
    have ty : s.TypeIs (.ref a) "tuple" := ⟨o, ho, oc⟩
    refine wpAny_pyReprUnder_ref (by omega) (wpAny_pyReprObjUnder_twin (twin := "tuple.__repr__.under") ty PySem.F.slot_tuple_repr rfl hr.units0 ?_)
    refine call_twin_own (PySem.F.quiet_tuple_repr_under _) PySem.F.entry_tuple_repr_under PySem.F.check_tuple_repr_under ty PySem.F.slot_tuple_repr (PySem.F.args_tuple_repr_1 _) ?_
    obtain ⟨_, _, ff⟩ := @under_depth A [.ref a, rawInt base]
    exact shr_rest (m := n + d) (R := callEnd _ X.xe) I ha tl (fun i v t h1 h2 => ih i v t h1 h2) na hg hcl (isGuard_tuple_repr_under _) (room_under hr) (ff.trans fr) hz fun s2 u I2 => ⟨⟨_, _, rfl⟩, _, _, rfl, q s2 I2⟩
def rReprN (C : Addr) (K : PySem.W.Frag) (sp : Sp) (d : Nat) : List V → Hp → VK → Prop := fun xs H Q => ∃ (p : Addr) (ws : List V) (ts : List Str) (as : List Addr), xs = [.ref p] ∧ SqT K H p ws ∧ ts.length = ws.length ∧ (∀ (i : Nat) (v : V) (t : Str), ws[i]? = some v → ts[i]? = some t → Shw K H (OwnT C sp H) v t as d) ∧ p ∉ as ∧ (tupleText ts).length ≤ 10000000 ∧ Q (.str (tupleText ts)) H
theorem call_reprN {d : Nat} (hA : X.A.guards = some []) (F : FnOk X.prog X.w X.K X.mg X.base CX0 n f fd ps sp) (hs : PySem.W.findIn X.K (.ref C) "__repr__" = some (some (.ref f))) (hf : PySem.W.isFn X.K (.ref f) = true) (hb : Binds X.K fd ps []) (hr : Room (n + d + 2) X.A) :
    CallR X (.builtin "repr") (rReprN C X.K sp d) := by
  rintro pins s σ H xs us Q I r ⟨p, ws, ts, as, rfl, ha, tl, hx, na, hz, q⟩
  obtain ⟨u, rfl, rx⟩ := vals1 r
  cases rx
  have rA : Room (n + d + 1) X.A.in1 := hr.in1
  have sl : sizeLine = 16777216 := rfl
  obtain ⟨_, _, ff⟩ := @tup_depth X.A.in1 [.ref p]
  obtain ⟨its, rv, ⟨o, ho, oc, k, od⟩, _⟩ := I.tuple ha
  have ty : s.TypeIs (.ref p) "tuple" := ⟨o, ho, oc⟩
  refine call_repr_slot (by have := rA.un; show X.A.in1.units < _; omega) ty PySem.F.slot_tuple_repr ?_
  refine wpAny_call (codeAny_call_builtin_own (Code.quiet_builtin _ (by decide +kernel)) PySem.F.entry_tuple_repr (PySem.F.slot_tuple_repr.check _ _ _ _ _ _ _ _ ty (PySem.F.args_tuple_repr_1 _) ?_))
  exact shr_rest (m := n + d) (base := 0) (R := callEnd _ X.xe) I ha tl (fun i v t h1 h2 => shw_run F hs hf hb (hx i v t h1 h2)) na hA (fun b _ => Clear.nil b) (isGuard_tuple_repr _) (room_tup rA) ff (by omega) fun s2 u I2 => ⟨_, _, rfl, .str _, H, I2, ⟨_, rfl⟩, q⟩
end
end My

namespace My
open PySem L2 TL NumText
/-! ### texts of whole numbers and of Numbers -/
def TI (i : Int) : Str := Str.ofString (toString i)
def signL (i : Int) : List Nat := if i < 0 then 45 :: numL i.natAbs else numL i.natAbs
theorem tl_TI (i : Int) : tl (TI i) = signL i := by
  unfold TI signL
  by_cases h : i < 0
  · rw [if_pos h]
    obtain ⟨m, rfl⟩ := Int.eq_negSucc_of_lt_zero h
    have e : toString (Int.negSucc m) = "-" ++ toString (((m + 1 : Nat)) : Int) := rfl
    rw [e, tl_ofString, String.toList_append, List.map_append, ← tl_ofString (toString (((m + 1 : Nat)) : Int)), tl_num]
    rfl
  · rw [if_neg h]
    obtain ⟨n, rfl⟩ := Int.eq_ofNat_of_zero_le (show 0 ≤ i by omega)
    exact tl_num n
theorem signL_inj {i j : Int} (h : signL i = signL j) : i = j := by
  unfold signL at h
  have f : ∀ n, (45 : Nat) ∉ numL n := fun n => numL_free (by decide)
  by_cases a : i < 0 <;> by_cases b : j < 0
  · rw [if_pos a, if_pos b] at h
    have := numL_inj (List.cons.inj h).2
    omega
  · rw [if_pos a, if_neg b] at h
    exact absurd (h ▸ List.mem_cons_self ..) (f _)
  · rw [if_neg a, if_pos b] at h
    exact absurd (h ▸ List.mem_cons_self ..) (f _)
  · rw [if_neg a, if_neg b] at h
    have := numL_inj h
    omega
theorem TI_inj {i j : Int} (h : TI i = TI j) : i = j := signL_inj (by rw [← tl_TI, ← tl_TI, h])
theorem free_signL {s : Nat} (h : s ≠ 45) (h2 : s < 48 ∨ 57 < s) (i : Int) : s ∉ signL i := by
  unfold signL
  split
  · intro z
    rcases List.mem_cons.mp z with z | z
    · exact h z
    · exact numL_free h2 z
  · exact numL_free h2
theorem signL_len {i : Int} {k : Nat} (hk : 0 < k) (h : i.natAbs < 10 ^ k) : (signL i).length ≤ k + (if i < 0 then 1 else 0) := by
  have := numL_len hk h
  unfold signL
  split
  · rw [List.length_cons]; omega
  · omega
theorem signL_ne (i : Int) : signL i ≠ [] := by
  unfold signL
  split
  · exact List.cons_ne_nil _ _
  · exact numL_ne _
theorem int_TI {i : Int} (h : (TI i).length ≤ 4300) : intText? (TI i) = some i := by
  by_cases z : i < 0
  · have e : (TI i).cps.toList = 45 :: numL i.natAbs := by
      have := tl_TI i
      unfold signL at this
      rw [if_pos z] at this
      exact this
    have := intText_neg e (numL_digits _) (numL_ne _) h
    rw [this, numL_val]
    congr 1
    omega
  · obtain ⟨n, rfl⟩ := Int.eq_ofNat_of_zero_le (show 0 ≤ i by omega)
    have l : (numL n).length ≤ 4300 := by
      have := len_tl (TI (n : Int))
      rw [tl_TI] at this
      unfold signL at this
      rw [if_neg z] at this
      rw [this] at h
      exact h
    exact int_num l
/-- the text of a Number -/
def NText (x : Rat) : Str := if x.den = 1 then TI x.num else TI x.num ++ "/" ++ TI (x.den : Int)
theorem nat_signL (n : Nat) : signL (n : Int) = numL n := by
  unfold signL
  rw [if_neg (by omega)]
  rfl
theorem tl_NText (x : Rat) : tl (NText x) = if x.den = 1 then signL x.num else signL x.num ++ 47 :: numL x.den := by
  unfold NText
  split
  · exact tl_TI _
  · have e : tl ("/" : Str) = [47] := rfl
    rw [tl_append, tl_append, tl_TI, tl_TI, nat_signL, e]
    simp
theorem part_none {x : Rat} (h : x.den = 1) : Txt.partition (NText x) "/" = (TI x.num, Str.empty, Str.empty) := by
  have e : NText x = TI x.num := if_pos h
  rw [e]
  exact partition_none (s := 47) (S := []) rfl (by rw [tl_TI]; exact free_signL (by decide) (by decide) _)
theorem part_some {x : Rat} (h : x.den ≠ 1) : Txt.partition (NText x) "/" = (TI x.num, ("/" : Str), TI (x.den : Int)) := by
  have e : NText x = TI x.num ++ "/" ++ TI (x.den : Int) := if_neg h
  rw [e]
  exact partition_app (s := 47) (S := []) rfl (by rw [tl_TI]; exact free_signL (by decide) (by decide) _)
theorem minus_off (i : Int) : tl (Txt.removeprefix (TI i) "-") = numL i.natAbs := by
  rw [PySem.StrLaws.removeprefix_eq]
  have hx : (TI i).cps.toList = signL i := tl_TI i
  have ll : (TI i).length = (signL i).length := by rw [len_tl, tl_TI]
  have hy : ("-" : Str).cps.toList = [45] := rfl
  have y1 : ("-" : Str).length = 1 := rfl
  rw [PySem.StrLaws.subAt_eq, hx, hy, y1, ll, List.drop_zero]
  unfold signL
  by_cases z : i < 0
  · rw [if_pos z]
    have e : ((45 :: numL i.natAbs).take 1 == [45]) = true := rfl
    rw [e, if_pos (by rw [Bool.and_true]; exact decide_eq_true (by rw [List.length_cons]; omega))]
    show (45 :: numL i.natAbs).tail.take _ = _
    rw [List.tail_cons, List.length_cons]
    exact List.take_of_length_le (by omega)
  · rw [if_neg z]
    have f : (45 : Nat) ∉ numL i.natAbs := numL_free (by decide)
    have e : ((numL i.natAbs).take 1 == [45]) = false := by
      generalize numL i.natAbs = l at *
      cases l with
      | nil => rfl
      | cons c r =>
        have c0 : c ≠ 45 := fun q => f (by rw [q]; exact List.mem_cons_self ..)
        show ((c :: List.take 0 r) == [45]) = false
        rw [List.take_zero]
        simpa using c0
    rw [e, Bool.and_false, if_neg (by decide)]
    have := tl_TI i
    unfold signL at this
    rw [if_neg z] at this
    exact this
theorem digit_is : ∀ c : Nat, 48 ≤ c → c ≤ 57 → Unicode.isDigit c = true ∧ decide (c < 128) = true := by
  intro c h1 h2
  have h : c = 48 ∨ c = 49 ∨ c = 50 ∨ c = 51 ∨ c = 52 ∨ c = 53 ∨ c = 54 ∨ c = 55 ∨ c = 56 ∨ c = 57 := by omega
  rcases h with rfl | rfl | rfl | rfl | rfl | rfl | rfl | rfl | rfl | rfl <;> decide +kernel
theorem all_list {x : Str} {p : Nat → Bool} : x.cps.all p = (tl x).all p := by
  show x.cps.all p = x.cps.toList.all p
  exact (Array.all_toList ..).symm
theorem ascii_off (i : Int) : Txt.isascii (Txt.removeprefix (TI i) "-") = true := by
  unfold Txt.isascii
  rw [all_list, minus_off, List.all_eq_true]
  intro c hc
  have := numL_digits _ c hc
  exact (digit_is c this.1 this.2).2
theorem digits_off (i : Int) : Txt.isdigit (Txt.removeprefix (TI i) "-") = true := by
  unfold Txt.isdigit
  rw [all_list, minus_off, len_tl, minus_off, Bool.and_eq_true, List.all_eq_true]
  constructor
  · have := numL_ne i.natAbs
    generalize numL i.natAbs = l at *
    cases l with
    | nil => exact absurd rfl this
    | cons _ _ => exact decide_eq_true (by rw [List.length_cons]; omega)
  · intro c hc
    have := numL_digits _ c hc
    exact (digit_is c this.1 this.2).1
theorem TI_len (i : Int) : (TI i).length = (signL i).length := by rw [len_tl, tl_TI]
theorem NText_len (x : Rat) : (NText x).length = if x.den = 1 then (signL x.num).length else (signL x.num).length + 1 + (numL x.den).length := by
  rw [len_tl, tl_NText]
  split
  · rfl
  · rw [List.length_append, List.length_cons]; omega
end My

namespace My
open PySem L2
section
variable {σ : L2.St} {H : Hp} {Q : VK} {v x y : V} {te ta to ti : TE} {tr : TA} {K : PySem.W.Frag} {nx : L2.St → Hp → Prop} {rt : VK} {bk ct : L2.St → Hp → Prop}
theorem r_par {i j : Nat} (q : tr σ H fun vs H1 => ∃ v w, vs = [v, w] ∧ nx ((σ.set i (some v)).set j (some w)) H1) : tPar i j tr ⟨nx, rt, bk, ct⟩ σ H := q
theorem r_two {P : V → V → Prop} (q : P x y) : ∃ v w, [x, y] = [v, w] ∧ P v w := ⟨x, y, rfl, q⟩
theorem r_m1 {r : V → List V → Hp → VK → Prop} (q : to σ H fun x H1 => (∃ a, x = .str a) ∧ te σ H1 fun y H2 => r x [y] H2 Q) : tM1 r to te σ H Q := q
theorem r_isStr {a : Str} {P : Prop} (q : P) : (∃ b, V.str a = .str b) ∧ P := ⟨⟨a, rfl⟩, q⟩
theorem r_inT {t : Addr} {xs : List V} {b : Bool} (h : H t = some (.tup xs)) (f : flatV x = true) (fs : xs.all flatV = true) (e : inV x xs = b) (q : Q (.bl b) H) : rIn K false x (.ref t) H Q := ⟨t, xs, rfl, .inr (SqT.of h), f, fs, by
  subst e
  exact q⟩
theorem r_notInT {t : Addr} {xs : List V} {b : Bool} (h : H t = some (.tup xs)) (f : flatV x = true) (fs : xs.all flatV = true) (e : inV x xs = b) (q : Q (.bl (!b)) H) : rIn K true x (.ref t) H Q := ⟨t, xs, rfl, .inr (SqT.of h), f, fs, by
  subst e
  exact q⟩
theorem r_isN {P : V → Hp → Prop} {b : Bool} (e : decide (x = V.non) = b) (q : P (.bl b) H) : V.non = V.non ∧ P (.bl (decide (x = V.non))) H := ⟨rfl, by rw [e]; exact q⟩
theorem r_lcT {tl : TE} {g : TG} {tt : TT} {vs : List Nat} (q : tl σ H fun x H1 => ∃ a, x = .ref a ∧ (∃ xs, SqT K H1 a xs) ∧ ∀ D, H1 D = none → ∃ W : Nat → Nat → Hp → Prop, (∃ m, W 0 m (upd H1 D (.lst []))) ∧ ∀ i m H, W i m H →
    ((Itt K a).stop i H ∧ Q (.ref D) H) ∨ ((Itt K a).go i H ∧ ∃ Nx : Hp → Prop, (∀ H', Nx H' → ∃ m', m' < m ∧ W (i + 1) m' H') ∧ ∀ x H', (Itt K a).yld i H x H' → g x (wipe σ vs) H' fun σ2 H2 => wipe σ2 vs = wipe σ vs ∧ tt σ2 H2 fun b H3 =>
      if b = true then te σ2 H3 fun y H4 => ∃ acc, H4 D = some (.lst acc) ∧ acc.length < sizeLine ∧ Nx (upd H4 D (.lst (acc ++ [y]))) else Nx H3)) : tLc (iTup K tl) g tt te vs σ H Q := q
theorem r_rng2 {g : TG} {tb : TS} {D : Ends} (q : tr σ H fun vs H1 => ∃ i j : Int, vs = [.int i, .int j] ∧ (-(2 ^ 62) ≤ i ∧ i < 2 ^ 62 ∧ -(2 ^ 62) ≤ j ∧ j < 2 ^ 62) ∧ ∃ W : Nat → Nat → L2.St → Hp → Prop, (∃ m, W 0 m σ H1) ∧ ∀ k m σ H, W k m σ H →
    ((Itr i (j - i).toNat).stop k H ∧ D.nx σ H) ∨ ((Itr i (j - i).toNat).go k H ∧ ∃ N : L2.St → Hp → Prop, (∀ σ' H', N σ' H' → ∃ m', m' < m ∧ W (k + 1) m' σ' H') ∧ ∀ x H', (Itr i (j - i).toNat).yld k H x H' → g x σ H' fun σ2 H2 => tb { D with nx := N, ct := N, bk := D.nx } σ2 H2)) : tFor (iRng2 tr) g tb D σ H := q
theorem r_gTup {a : Addr} {xs : List V} {n : Nat} {t : TGs} {QS : L2.St → Hp → Prop} (h : H a = some (.tup xs)) (l : xs.length = n) (q : t xs σ H QS) : gTup K n t (.ref a) σ H QS := ⟨a, xs, rfl, SqT.of h, l, q⟩
theorem r_gCons {t : TG} {u : TGs} {xs : List V} {QS : L2.St → Hp → Prop} (q : t x σ H fun σ' H' => u xs σ' H' QS) : gCons t u (x :: xs) σ H QS := ⟨x, xs, rfl, q⟩
theorem r_gNil {QS : L2.St → Hp → Prop} (q : QS σ H) : gNil [] σ H QS := ⟨rfl, q⟩
theorem r_aug {i : Nat} {ti : TIp} (q : ∃ x, σ[i]? = some (some x) ∧ te σ H fun y H1 => ti x y H1 fun z H2 => nx (σ.set i (some z)) H2) : tAug i te ti ⟨nx, rt, bk, ct⟩ σ H := q
theorem r_ip {f : Int → Int → Int} {i j : Int} (q : Q (.int (f i j)) H) : ipI f (.int i) (.int j) H Q := ⟨i, j, rfl, rfl, q⟩
theorem r_bits (q : to σ H fun x H1 => ∃ i, x = .int i ∧ Q (.int (Builtin.Int.intBits i : Nat)) H1) : tBits to σ H Q := q
theorem r_dget2 {td ty tx : TE} (q : td σ H fun x H1 => ∃ a, x = .ref a ∧ IsD H1 a ∧ ty σ H1 fun y H2 => tx σ H2 fun z H3 => ∃ o, DGet H3 a y o ∧ Q (o.getD z) H3) : tDGet2 td ty tx σ H Q := q
theorem r_rng1 {g : TG} {tb : TS} {D : Ends} (q : tr σ H fun vs H1 => ∃ j : Int, vs = [.int j] ∧ -(2 ^ 62) ≤ j ∧ j < 2 ^ 62 ∧ ∃ W : Nat → Nat → L2.St → Hp → Prop, (∃ m, W 0 m σ H1) ∧ ∀ k m σ H, W k m σ H →
    ((Itr 0 j.toNat).stop k H ∧ D.nx σ H) ∨ ((Itr 0 j.toNat).go k H ∧ ∃ N : L2.St → Hp → Prop, (∀ σ' H', N σ' H' → ∃ m', m' < m ∧ W (k + 1) m' σ' H') ∧ ∀ x H', (Itr 0 j.toNat).yld k H x H' → g x σ H' fun σ2 H2 => tb { D with nx := N, ct := N, bk := D.nx } σ2 H2)) : tFor (iRng1 tr) g tb D σ H := q
end
end My

local macro_rules | `(tactic| walk_at "rd2") => `(tactic| first
  | with_reducible refine My.r_par ?_
  | with_reducible refine My.r_two ?_
  | with_reducible refine My.r_m1 ?_
  | with_reducible refine My.r_isStr ?_
  | with_reducible refine My.r_gCons ?_
  | with_reducible refine My.r_gNil ?_
  | ((with_reducible refine My.r_aug ?_); refine ⟨_, rfl, ?_⟩)
  | with_reducible refine My.r_ip ?_
  | with_reducible refine My.r_bits ?_)
local macro_rules | `(tactic| walk_at "rdg") => `(tactic| (repeat (first | walk_at "rd1" | walk_at "rd2")))

namespace My
open PySem L2
section
variable {σ : L2.St} {H : Hp} {Q : VK} {v x y : V} {te ta to ti td ty tk tv : TE} {K : PySem.W.Frag}
theorem r_disp {trs : List (TE × TE)} (q : ∀ p, H p = none → tPairs trs σ (upd H p (.dK [])) fun ps H2 => H2 p = some (.dK []) ∧ ∃ kvs : List (Key × V), ps = kvs.map (fun kv => (kV kv.1, kv.2)) ∧ kvs.length ≤ 15 ∧ Q (.ref p) (upd H2 p (.dK (mergeK [] kvs)))) : tDisp trs σ H Q := q
theorem r_pair {r : List (TE × TE)} {QP : List (V × V) → Hp → Prop} (q : tk σ H fun x H1 => tv σ H1 fun y H2 => tPairs r σ H2 fun ps H3 => QP ((x, y) :: ps) H3) : tPairs ((tk, tv) :: r) σ H QP := q
theorem r_pair0 {QP : List (V × V) → Hp → Prop} (q : QP [] H) : tPairs [] σ H QP := q
theorem r_dget (q : td σ H fun x H1 => ty σ H1 fun y H2 => ∃ a v, x = .ref a ∧ DGet H2 a y (some v) ∧ Q v H2) : tDGet td ty σ H Q := q
theorem r_din (q : ty σ H fun y H1 => td σ H1 fun x H2 => ∃ a o, x = .ref a ∧ DGet H2 a y o ∧ Q (.bl o.isSome) H2) : tDIn ty td σ H Q := q
theorem Same.dict {H : Hp} {p : Addr} {o1 o2 : HO} (h : H p = none) : Same H (upd (upd H p o1) p o2) := fun b o e => by
  rw [upd_ne (ne_of_none e h), upd_ne (ne_of_none e h)]
  exact e
end
end My

local macro_rules | `(tactic| walk_at "rd3") => `(tactic| first
  | with_reducible refine My.r_pair ?_
  | with_reducible refine My.r_pair0 ?_
  | with_reducible refine My.r_dget ?_
  | with_reducible refine My.r_din ?_)
local macro_rules | `(tactic| walk_at "rdh") => `(tactic| (repeat (first | walk_at "rd1" | walk_at "rd2" | walk_at "rd3")))

namespace My
open PySem L2
section
variable {σ : L2.St} {H : Hp} {Q : VK} {v x y : V} {te ta to ti : TE} {tr : TA} {K : PySem.W.Frag} {nx : L2.St → Hp → Prop} {rt : VK} {bk ct : L2.St → Hp → Prop}
theorem r_lcL {tl : TE} {g : TG} {tt : TT} {vs : List Nat} (q : tl σ H fun x H1 => ∃ a, x = .ref a ∧ (∃ xs, SqL K H1 a xs) ∧ ∀ D, H1 D = none → ∃ W : Nat → Nat → Hp → Prop, (∃ m, W 0 m (upd H1 D (.lst []))) ∧ ∀ i m H, W i m H →
    ((Itl K a).stop i H ∧ Q (.ref D) H) ∨ ((Itl K a).go i H ∧ ∃ Nx : Hp → Prop, (∀ H', Nx H' → ∃ m', m' < m ∧ W (i + 1) m' H') ∧ ∀ x H', (Itl K a).yld i H x H' → g x (wipe σ vs) H' fun σ2 H2 => wipe σ2 vs = wipe σ vs ∧ tt σ2 H2 fun b H3 =>
      if b = true then te σ2 H3 fun y H4 => ∃ acc, H4 D = some (.lst acc) ∧ acc.length < sizeLine ∧ Nx (upd H4 D (.lst (acc ++ [y]))) else Nx H3)) : tLc (iList K tl) g tt te vs σ H Q := q
theorem r_forL {tl : TE} {g : TG} {tb : TS} {D : Ends} (q : tl σ H fun x H1 => ∃ a, x = .ref a ∧ (∃ xs, SqL K H1 a xs) ∧ ∃ W : Nat → Nat → L2.St → Hp → Prop, (∃ m, W 0 m σ H1) ∧ ∀ i m σ H, W i m σ H →
    ((Itl K a).stop i H ∧ D.nx σ H) ∨ ((Itl K a).go i H ∧ ∃ N : L2.St → Hp → Prop, (∀ σ' H', N σ' H' → ∃ m', m' < m ∧ W (i + 1) m' σ' H') ∧ ∀ x H', (Itl K a).yld i H x H' → g x σ H' fun σ2 H2 => tb { D with nx := N, ct := N, bk := D.nx } σ2 H2)) : tFor (iList K tl) g tb D σ H := q
theorem r_cat {l b : Addr} {xs zs : List V} (h1 : H l = some (.lst xs)) (h2 : H b = some (.lst zs)) (n : xs.length + zs.length ≤ 100000) (q : ∀ p, H p = none → Q (.ref p) (upd H p (.lst (xs ++ zs)))) : rCat (.ref l) (.ref b) H Q := ⟨l, b, xs, zs, rfl, rfl, h1, h2, Nat.le_trans n (by decide), q⟩
theorem r_iteR {A B : Prop} {k : Bool} (b : B) (h : k = true → B → A) : if k = true then A else B := by
  cases k with
  | true => exact h rfl b
  | false => exact b
theorem r_inAny {t : Addr} {xs : List V} {b : Bool} {n : Bool} (h : H t = some (.tup xs)) (f : flatV x = true) (fs : xs.all flatV = true) (e : inV x xs = b) (q : Q (.bl (if n then !b else b)) H) : rIn K n x (.ref t) H Q := ⟨t, xs, rfl, .inr (SqT.of h), f, fs, by
  subst e
  cases n <;> exact q⟩
end
end My
namespace My
open PySem L2
theorem r_cut {t u : TS} {σ : L2.St} {H : Hp} {nx : L2.St → Hp → Prop} {rt : VK} {bk ct : L2.St → Hp → Prop} (Mid : L2.St → Hp → Prop) (h1 : t ⟨Mid, rt, bk, ct⟩ σ H) (h2 : ∀ σ' H', Mid σ' H' → u ⟨nx, rt, bk, ct⟩ σ' H') : C8.tCut t u ⟨nx, rt, bk, ct⟩ σ H := ⟨Mid, h1, h2⟩
end My

namespace My
open PySem L2 PySem.Spec PyProof.Rows
/-! ### list(range(i, j)) -/
def rangeV (i j : Int) : List V := (rangeInts i 1 (j - i).toNat).map V.int
theorem vals_range (i : Int) {n : Nat} {acc : Array Value} (h : ItemsOf (fun k v => ∃ t, v = .int (i + (k : Nat) * 1) t) acc n) : Vals ((rangeInts i 1 n).map V.int) acc.toList := by
  have key : ∀ (xs : List Int) (us : List Value), us.length = xs.length → (∀ (k : Nat) (u : Value), us[k]? = some u → ∃ x t, xs[k]? = some x ∧ u = .int x t) → Vals (xs.map V.int) us := by
    intro xs
    induction xs with
    | nil =>
      intro us hl _
      cases us with
      | nil => exact .nil
      | cons _ _ => cases hl
    | cons x xs ih =>
      intro us hl hk
      cases us with
      | nil => cases hl
      | cons u us =>
        obtain ⟨x', t, e1, rfl⟩ := hk 0 u rfl
        cases e1
        exact .cons ⟨t, rfl⟩ (ih us (by simpa using hl) fun k u e => hk (k + 1) u (by rw [List.getElem?_cons_succ]; exact e))
  refine key _ _ (by rw [Array.length_toList, h.1, rangeInts_length]) fun k u e => ?_
  have e' : acc[k]? = some u := by rw [← Array.getElem?_toList]; exact e
  obtain ⟨t, rfl⟩ := h.2 k u e'
  have hk : k < n := by
    have := (Array.getElem?_eq_some_iff.mp e').1
    rw [h.1] at this; exact this
  exact ⟨_, t, rangeInts_get hk, rfl⟩
theorem call_list_rng {X : Cx} (hcalm : X.calm = true) : CallR X (.type "list") (fun xs H Q => ∃ (r : Addr) (i j : Int), xs = [.ref r] ∧ H r = some (.rng i j) ∧ (-(2 ^ 62) ≤ i ∧ i < 2 ^ 62 ∧ -(2 ^ 62) ≤ j ∧ j < 2 ^ 62) ∧ (j - i).toNat ≤ 1000 ∧ ∀ p, H p = none → Q (.ref p) (upd H p (.lst (rangeV i j)))) := by
  intro pins s σ H xs us Q I r q
  obtain ⟨a, i, j, rfl, hd, ⟨b1, b2, b3, b4⟩, hn, q⟩ := q
  obtain ⟨u, rfl, rx⟩ := vals1 r
  cases rx
  obtain ⟨t, u, v, e⟩ := (show ObjOk X.prog X.w H s.heap a (.rng i j) from I.hok a _ hd)
  have hsz : Builtin.Range.rangeSize i j 1 = (((j - i).toNat : Nat) : Int) := by rw [rangeSize_one]; split <;> omega
  refine call_list_range (I.ok.hd hcalm) e (small_one b1 b2 b3 b4) hsz (Nat.le_trans hn (by decide)) fun h' tk acc c' hk hD hacc => ?_
  have hv := vals_range i hacc
  refine ⟨.ref s.heap.objs.size, upd H s.heap.objs.size (.lst (rangeV i j)), I.laid (t' := tk) hk (Nat.le_refl _)
    (show ObjOk X.prog X.w _ _ _ (.lst (rangeV i j)) from ⟨by unfold rangeV; rw [List.length_map, rangeInts_length]; exact Nat.le_trans hn (by decide), acc.toList, c', hv, by rw [Array.toArray_toList]; exact hD⟩), rfl, q _ (I.hok.fresh (Nat.le_refl _))⟩
end My

namespace My
open PySem PySem.Spec PyProof.Rows L2
/-! ### range(j) as a thing; an index within a comprehension -/
theorem cr_range1 {X : Cx} : CallR X (.type "range") (fun vs H Q => ∃ j, vs = [V.int j] ∧ ∀ p, H p = none → Q (.ref p) (upd H p (.rng 0 j))) := by
  intro pins s σ H vs us Q I r h
  obtain ⟨j, rfl, q⟩ := h
  cases r with
  | cons rj rr =>
  cases rr
  obtain ⟨t, rfl⟩ := rj
  refine call_range_1 ⟨.ref s.heap.objs.size, upd H s.heap.objs.size (.rng 0 j), I.laid (t' := s.toks + 2) (fun c o e => Heap.get?_push_of_some _ e) (Nat.le_refl _) ?_, rfl, q _ (I.hok.fresh (Nat.le_refl _))⟩
  exact ⟨_, _, _, Heap.get?_push_size _ rfl⟩
theorem ix_tupK {X : Cx} {K0 : PySem.W.Frag} (hK : X.K = K0) : IxR X (rIxT K0) := by
  subst hK
  exact ix_tup
theorem call_isiK {X : Cx} {K0 : PySem.W.Frag} (hK : X.K = K0) : CallR X (.builtin "isinstance") (rIsi K0) := by
  subst hK
  exact call_isi
end My

namespace My
open PySem PySem.Spec PyProof.Rows L2
/-! ### words within a comprehension, K by its name -/
section
variable {X : Cx} {K0 : PySem.W.Frag}
theorem ix_listK (hK : X.K = K0) : IxR X (rIxL K0) := by
  subst hK
  exact ix_list
theorem op_catAK (hK : X.K = K0) : OpR X (binaryOp .Add) (rCatA K0) := by
  subst hK
  exact op_catA
theorem call_len_seqK (hK : X.K = K0) : CallR X (.builtin "len") (fun xs H Q => ∃ p ys, xs = [V.ref p] ∧ (SqL K0 H p ys ∨ SqT K0 H p ys) ∧ Q (.int (ys.length : Nat)) H) := by
  subst hK
  exact call_len_seq
end
end My

namespace My
open PySem PySem.Spec PyProof.Rows L2
/-! ### sum and sorted of a tuple of whole numbers; zip of a tuple and a list -/
section
variable {prog : Program} {w : World} {A : Around} {E : Value → Shared → Prop} {s : Shared}
theorem tupiter_kept {t : Addr} {g : Heap} (k : ∀ c o, c ∉ [s.heap.objs.size] → (s.heap.push { cls := .type "tuple_iterator", data := .fields #[.ref t, .int 0 0] }).get? c = some o → g.get? c = some o) {c : Addr} {o : Obj} (e : s.heap.get? c = some o) : g.get? c = some o := by
  have lt := Heap.lt_size e
  exact k c o (by rw [List.mem_singleton]; exact Nat.ne_of_lt lt) (Heap.get?_push_of_some _ e)
theorem sum_rawT {t : Addr} {its : List Value} {ns : List Int} {Q : Value → Shared → Prop} (hh : A.handled = none) (ht : s.heap.IsTuple t its.toArray) (hi : IntsAre its ns)
    (q : ∀ g tk u, (∀ c o, s.heap.get? c = some o → g.get? c = some o) → Q (.int ns.sum u) { s with heap := g, toks := tk }) : wpAny (model prog w) A (call (.builtin "sum") [.ref t]) Q E s := by
  obtain ⟨xs, ex⟩ := hi.allInts.items
  have en : numsOf (intItems xs).toList = ns := by rw [← ex]; exact hi.numsOf
  rw [nums_intItems] at en
  rw [ex] at ht
  have tl : t < s.heap.objs.size := by obtain ⟨_, ho, _⟩ := ht; exact Heap.lt_size ho
  refine PySem.call_sum_walkG (wpAny_pyIter_tuple ht ⟨s.heap.objs.size, _, _, _, _, _, numAt xs, rfl, Walks.tuple (A := A.in1) hh _ t (Nat.ne_of_lt tl) (intItems xs), ⟨⟨_, Heap.get?_push_size _ rfl, rfl, rfl⟩, ht.push _⟩, fun c hc => ?_, (fun _ _ => intItems_at), fun g tk u hk => ?_⟩)
  · show c < (s.heap.push _).objs.size
    rw [Heap.size_push]
    simp only [List.mem_cons, List.not_mem_nil, or_false] at hc
    rcases hc with rfl | rfl
    · exact Nat.lt_succ_self _
    · exact Nat.lt_succ_of_lt tl
  · have r := q g tk u fun c o e => tupiter_kept hk e
    rw [preSum_eq]
    have sz : (intItems xs).size = xs.size := by simp [intItems]
    rw [sz, List.take_of_length_le (by simp), en]
    exact r
end
section
variable {X : Cx}
def rSumT (K : PySem.W.Frag) : List V → Hp → VK → Prop := fun vs H Q => ∃ (a : Addr) (ns : List Int), vs = [V.ref a] ∧ SqT K H a (ns.map V.int) ∧ Q (.int ns.sum) H
theorem cr_sumT (hc : X.calm = true) : CallR X (.builtin "sum") (rSumT X.K) := by
  intro pins s σ H vs us Q I r h
  obtain ⟨a, ns, rfl, ht, q⟩ := h
  obtain ⟨its, rv, hl, _⟩ := I.tuple ht
  obtain rfl := Vals.ref1 r
  exact sum_rawT (I.ok.hd hc) hl rv.ints fun g tk u hk => ⟨.int _, H, I.kept hk, ⟨_, rfl⟩, q⟩
end
/-! zip of a tuple and a list -/
def ItzM (K : PySem.W.Frag) (a b : Addr) : It :=
  ⟨fun i H => ∃ (xs ys : List V) (x y : V), SqT K H a xs ∧ SqL K H b ys ∧ (xs[i]? = some x ∧ ys[i]? = some y),
    fun i H v H' => ∃ t x y, v = .ref t ∧ H t = none ∧ H' = upd H t (.tup [x, y]) ∧ (∀ xs, SqT K H a xs → xs[i]? = some x) ∧ (∀ ys, SqL K H b ys → ys[i]? = some y),
    fun i H => ∃ xs ys : List V, SqT K H a xs ∧ SqL K H b ys ∧ (i = xs.length ∨ i = ys.length) ∧ i ≤ xs.length ∧ i ≤ ys.length⟩
theorem sep_of {z TI TO i1 i2 a b : Addr} (D : ZipApart z TI TO i1 i2 a b) : ZipSep2 z TI TO i1 i2 [i1, a] [i2, b] where
  TIz := D.TIz
  TOz := D.TOz
  TITO := D.TITO
  TIi1 := D.TIi1
  mem1 := by simp
  zf1 := by simpa using ⟨D.i1z.symm, D.l1z.symm⟩
  Tf1 := by simpa using ⟨D.TOi1, D.l1TO.symm⟩
  TIi2 := D.TIi2
  mem2 := by simp
  zf2 := by simpa using ⟨D.i2z.symm, D.l2z.symm⟩
  Tf2 := by simpa using ⟨D.TOi2, D.l2TO.symm⟩
  sep1_2 := by simpa using ⟨D.i12, D.l2i1.symm⟩
  sep2_1 := by simpa using ⟨D.i12.symm, D.l1i2.symm⟩
theorem five {c z TI TO i1 i2 : Addr} (h : c ∈ [z, TI, TO, i1, i2]) : c = z ∨ c = TI ∨ c = TO ∨ c = i1 ∨ c = i2 := by simpa using h
theorem five_out {c z TI TO i1 i2 : Addr} (h : c ∉ [z, TI, TO, i1, i2]) : c ≠ z ∧ c ≠ TO ∧ c ≠ i1 ∧ c ≠ i2 := by
  simp only [List.mem_cons, List.not_mem_nil, or_false, not_or] at h
  exact ⟨h.1, h.2.2.1, h.2.2.2.1, h.2.2.2.2⟩
theorem turn_zipM {P : Program} {w : World} {K : PySem.W.Frag} {elts : List Expr} {kk : Nat} {tpos : Pos} {a b z TI TO i1 i2 : Addr} (D : ZipApart z TI TO i1 i2 a b) :
    Turn P w K (.Tuple elts kk tpos) (ItzM K a b) [z, TI, TO, i1, i2] z (fun i g => IsZip g z TI TO .none ∧ IsPair g TI (.ref i1) (.ref i2) ∧ (∃ x y, IsPair g TO x y) ∧ g.IsTupleIter i1 a i ∧ g.IsListIter i2 b i) where
  mem := List.mem_cons_self ..
  obj := fun i g st c hc => by
    obtain ⟨gz, gI, ⟨x, y, gO⟩, ⟨o1, e1, _, d1⟩, ⟨o2, e2, _, d2⟩⟩ := st
    rcases five hc with rfl | rfl | rfl | rfl | rfl
    · exact ⟨_, gz, fun v e => nomatch e⟩
    · exact ⟨_, gI, fun v e => nomatch e⟩
    · exact ⟨_, gO, fun v e => nomatch e⟩
    · exact ⟨o1, e1, fun v e => by rw [d1] at e; cases e⟩
    · exact ⟨o2, e2, fun v e => by rw [d2] at e; cases e⟩
  keep := fun i g g' st k => by
    obtain ⟨gz, gI, ⟨x, y, gO⟩, it1, it2⟩ := st
    exact ⟨k z (by simp) _ gz, k TI (by simp) _ gI, ⟨x, y, k TO (by simp) _ gO⟩, it1.at fun o e => k i1 (by simp) o e, it2.at fun o e => k i2 (by simp) o e⟩
  item := by
    intro X hP hw hK hc i pins s σ H E I hf st hg
    subst hP hw hK
    obtain ⟨gz, gI, ⟨x0, y0, gO⟩, it1, it2⟩ := st
    obtain ⟨xs, ys, x, y, tx, ly, ex, ey⟩ := hg
    obtain ⟨its, rv, p, _⟩ := I.tuple tx
    obtain ⟨its2, rv2, p2, _⟩ := I.list ly
    obtain ⟨u, hu, ru⟩ := rv.get ex
    obtain ⟨u2, hu2, ru2⟩ := rv2.get ey
    have hh : X.A.in1.handled = none := I.ok.hd hc
    have lz : z < s.heap.objs.size := Heap.lt_size gz
    have n1 : i < its.toArray.size := by rw [List.size_toArray]; exact (List.getElem?_eq_some_iff.mp hu).1
    have n2 : i < its2.toArray.size := by rw [List.size_toArray]; exact (List.getElem?_eq_some_iff.mp hu2).1
    refine wpAny_pyNext_zipD2_item (sep_of D) (Draws.tuple hh i1 a D.l1i1 its.toArray) (Draws.list hh i2 b D.l2i2 its2.toArray) gz gI gO ⟨it1, p⟩ ⟨it2, p2.isList⟩ n1 n2 fun v1 v2 g tk k1 k2 gz' gO' s1 s2 gT gn gk => ?_
    obtain rfl : v1 = u := by
      have : its[i]? = some v1 := by simpa using k1
      rw [hu] at this
      exact (Option.some.inj this).symm
    obtain rfl : v2 = u2 := by
      have : its2[i]? = some v2 := by simpa using k2
      rw [hu2] at this
      exact (Option.some.inj this).symm
    refine ⟨_, rfl, wpAny_letOwnedTupleGo_zip (s := { s with heap := g, toks := tk }) gz' fun g2 gz2 sb => ?_⟩
    have sb2 : ∀ c, c ≠ z → g2.get? c = g.get? c := sb.2
    have new2 : g2.get? s.heap.objs.size = some { cls := .type "tuple", data := .seq #[v1, v2] } := (sb2 _ (Nat.ne_of_gt lz)).trans gT
    have ok : ObjOk X.prog X.w (upd H s.heap.objs.size (.tup [x, y])) g2 s.heap.objs.size (.tup [x, y]) :=
      ⟨by show 2 ≤ sizeLine; decide, [v1, v2], .cons ru (.cons ru2 .nil), ⟨_, new2, rfl, _, rfl⟩⟩
    have J : Inv X pins σ (upd H s.heap.objs.size (.tup [x, y])) { s with heap := g2, toks := tk } :=
      I.turnedNew (t' := tk) (ch := [z, TI, TO, i1, i2]) (fun c o hn e => by
        obtain ⟨c1, c2, c3, c4⟩ := five_out hn
        exact (sb2 c c1).trans (gk c o c1 c2 c3 c4 e)) hf (Nat.le_refl _) ok
    refine ⟨.ref s.heap.objs.size, _, J, rfl, ⟨_, x, y, rfl, I.hok.fresh (Nat.le_refl _), rfl, fun l hl => by rw [I.tuple_inj hl tx]; exact ex, fun l hl => by rw [I.list_inj hl ly]; exact ey⟩, ⟨gz2, ?_, ⟨v1, v2, ?_⟩, ?_, ?_⟩, fun c hcm => ?_⟩
    · exact (sb2 _ D.TIz).trans (gk _ _ D.TIz D.TITO D.TIi1 D.TIi2 gI)
    · exact (sb2 _ D.TOz).trans gO'
    · exact s1.1.at fun o e => (sb2 _ D.i1z).trans e
    · exact s2.1.at fun o e => (sb2 _ D.i2z).trans e
    · have lt : c < s.heap.objs.size := by
        rcases five hcm with rfl | rfl | rfl | rfl | rfl
        · exact lz
        · exact Heap.lt_size gI
        · exact Heap.lt_size gO
        · obtain ⟨_, e1, _⟩ := it1; exact Heap.lt_size e1
        · obtain ⟨_, e2, _⟩ := it2; exact Heap.lt_size e2
      rw [upd_ne (Nat.ne_of_lt lt)]
      exact (hf c hcm).1
  done := by
    intro X hP hw hK hc i pins s σ H E I hf st hg
    subst hP hw hK
    obtain ⟨gz, gI, ⟨x0, y0, gO⟩, it1, it2⟩ := st
    obtain ⟨xs, ys, tx, ly, he, le1, le2⟩ := hg
    obtain ⟨its, rv, p, _⟩ := I.tuple tx
    obtain ⟨its2, rv2, p2, _⟩ := I.list ly
    have hh : X.A.in1.handled = none := I.ok.hd hc
    have l1 := rv.length
    have l2 := rv2.length
    have z1 : its.toArray.size = its.length := List.size_toArray ..
    have z2 : its2.toArray.size = its2.length := List.size_toArray ..
    exact wpAny_pyNext_zipD2_end (sep_of D) (Draws.tuple hh i1 a D.l1i1 its.toArray) (Draws.list hh i2 b D.l2i2 its2.toArray) gz gI gO ⟨it1, p⟩ ⟨it2, p2.isList⟩ (by omega) (by omega) (by omega) fun g tk gk => ⟨rfl, I.turnedL (t' := tk) (ch := [z, TI, TO, i1, i2]) (fun c o hn e => by
      obtain ⟨c1, c2, c3, c4⟩ := five_out hn
      exact gk c o c1 c2 c3 c4 e) hf⟩
  self := fun A i s Q E st h => wpAny_pyIter_zip st.1 h
def iZipM (K : PySem.W.Frag) (ta : TA) : L2.TI := fun σ H R => ta σ H fun vs H1 => ∃ a b xs ys, vs = [.ref a, .ref b] ∧ SqT K H1 a xs ∧ SqL K H1 b ys ∧ R (ItzM K a b) H1
theorem pi_zipM {X : Cx} {e e2 : Expr} {ta : TA} {p pos tpos : Pos} {elts : List Expr} {kk : Nat} (hg : Gl X "zip") (hm : X.mg "zip" = none) (ha : PA X [e, e2] ta)
    (st : starEach [e, e2] X.env = (false, eval e X.env) :: starEach [e2] X.env := by rfl) (pl : (backTo pos (starEach [e2] X.env)).any (·.1) = false := by rfl) :
    PI X (.Tuple elts kk tpos) (.Call (.Name "zip" p) [e, e2] [] pos) (iZipM X.K ta) := by
  refine ⟨fun pins s σ H R I h => ?_⟩
  refine Call_ (ld_blt I hg hm PyProof.Rows.boot_zip (PyProof.Rows.callWith_type1 (thn (ha.run pos pins s σ H _ I h) fun us s1 ⟨vs, H1, I1, r1, q1⟩ => ?_) st pl))
  obtain ⟨a, b, xs, ys, rfl, tx, ly, q⟩ := q1
  cases r1 with
  | cons r rr =>
  cases rr with
  | cons r' rr =>
  cases rr
  cases r
  cases r'
  obtain ⟨its, rv, p1, _⟩ := I1.tuple tx
  obtain ⟨its2, rv2, p2, _⟩ := I1.list ly
  obtain ⟨o1, ho1, _⟩ := id p1
  obtain ⟨o2, ho2, _⟩ := id p2.isList
  have la := Heap.lt_size ho1
  have lb := Heap.lt_size ho2
  refine zip_begins2 (begins_tuple a its.toArray) (begins_list b its2.toArray) (show s1.heap.IsTuple a its.toArray from p1) p2.isList fun g gz gI gO g1 g2 gn gk => wpAny_pyIter_zip gz ?_
  have J : Inv X pins σ H1 { s1 with heap := g } := I1.kept (t' := s1.toks) gk
  refine ⟨s1.heap.objs.size + 4, [s1.heap.objs.size + 4, s1.heap.objs.size + 2, s1.heap.objs.size + 3, s1.heap.objs.size, s1.heap.objs.size + 1], _, _, H1, rfl, J, turn_zipM (PySem.W.ktu_apart s1.heap.objs.size a b la lb), ⟨gz, gI, ⟨_, _, gO⟩, ⟨_, g1, rfl, rfl⟩, ⟨_, g2, rfl, rfl⟩⟩, fun c hc => ?_, q⟩
  have le : s1.heap.objs.size ≤ c := by
    rcases five hc with rfl | rfl | rfl | rfl | rfl <;> omega
  exact I1.fpOk le (I1.hok.fresh le)
theorem for_zipM {K : PySem.W.Frag} {a b : Addr} {xs ys : List V} {g : TG} {tb : TS} {D : Ends} {σ : L2.St} {H : Hp} (hl : xs.length = ys.length) (Pv : Nat → L2.St → Hp → Prop) (h0 : Pv 0 σ H) (hq : ∀ i σ H, Pv i σ H → SqT K H a xs ∧ SqL K H b ys)
    (hs : ∀ (i : Nat) (x y : V) (t : Addr) (σ : L2.St) (H : Hp), xs[i]? = some x → ys[i]? = some y → Pv i σ H → H t = none → g (.ref t) σ (upd H t (.tup [x, y])) fun σ2 H2 => tb { D with nx := Pv (i + 1), ct := Pv (i + 1), bk := D.nx } σ2 H2) (hd : ∀ σ H, Pv xs.length σ H → D.nx σ H) :
    ∃ W : Nat → Nat → L2.St → Hp → Prop, (∃ m, W 0 m σ H) ∧ ∀ i m σ H, W i m σ H →
      ((ItzM K a b).stop i H ∧ D.nx σ H) ∨ ((ItzM K a b).go i H ∧ ∃ N : L2.St → Hp → Prop, (∀ σ' H', N σ' H' → ∃ m', m' < m ∧ W (i + 1) m' σ' H') ∧ ∀ v H', (ItzM K a b).yld i H v H' → g v σ H' fun σ2 H2 => tb { D with nx := N, ct := N, bk := D.nx } σ2 H2) := by
  refine ⟨fun i m σ H => i + m = xs.length ∧ Pv i σ H, ⟨xs.length, Nat.zero_add _, h0⟩, ?_⟩
  rintro i m σ H ⟨im, pv⟩
  obtain ⟨qx, qy⟩ := hq i σ H pv
  by_cases e : m = 0
  · have ei : i = xs.length := by omega
    subst ei
    exact .inl ⟨⟨xs, ys, qx, qy, .inl rfl, Nat.le_refl _, by omega⟩, hd σ H pv⟩
  · have li : i < xs.length := by omega
    have lj : i < ys.length := by omega
    refine .inr ⟨⟨xs, ys, _, _, qx, qy, List.getElem?_eq_getElem li, List.getElem?_eq_getElem lj⟩, Pv (i + 1), fun σ' H' p' => ⟨m - 1, by omega, by omega, p'⟩, fun v H' y => ?_⟩
    obtain ⟨t, x', y', rfl, ht, rfl, f1, f2⟩ := y
    exact hs i x' y' t σ H (f1 xs qx) (f2 ys qy) pv ht
/-! sorted of a tuple of whole numbers, the greatest first -/
section
variable {prog : Program} {w : World} {A : Around} {E : Value → Shared → Prop} {s : Shared}
theorem collect_tuple {t : Addr} {vs : List Value} {Q : List Value → Shared → Prop} (ht : s.heap.IsTuple t vs.toArray) (sz : vs.length ≤ sizeLine)
    (q : Q vs { s with heap := (s.heap.push (seqObj "list" #[] 0)).update s.heap.objs.size (Obj.mapSeq (· ++ vs.toArray)) }) : wpAny (model prog w) A (collect (.ref t)) Q E s := by
  obtain ⟨o, ho, oc, n, od⟩ := id ht
  unfold collect
  refine wpAny_bind (wpAny_runValue (codeAny_builtin entry_proto_collect' ?_))
  show wpAny _ _ (do again (.builtin "list.__iadd__" ⟨[← newList [], .ref t], []⟩)) _ _ s
  refine wpAny_bind (wpAny_newList (wpAny_pure ⟨Code.quiet_builtin _ (by decide +kernel), codeAny_builtin entry_list_iadd' ?_⟩) (Nat.zero_le _))
  show wpAny _ _ (Builtin.List.listExtendWith (.ref s.heap.objs.size) (.ref t) (.ref s.heap.objs.size)) _ _ { s with heap := s.heap.push (seqObj "list" #[] 0) }
  unfold Builtin.List.listExtendWith
  have ho' : (s.heap.push (seqObj "list" #[] 0)).get? t = some o := Heap.get?_push_of_some _ ho
  refine wpAny_bind (wpAny_typeOf (T := "tuple") ⟨o, ho', oc⟩ ?_)
  have tt : (Value.type "tuple" == Value.type "tuple") = true := rfl
  rw [if_pos (by rw [tt]; simp)]
  refine wpAny_bind (listItems_at ho' od ?_)
  refine wpAny_bind (listItems_at (xs := #[]) (n := 0) (Heap.get?_push_size _ rfl) rfl ?_)
  rw [if_neg (by simp)]
  refine wpAny_bind (listUpdate_at (xs := #[]) (n := 0) (Heap.get?_push_size _ rfl) rfl ?_ (Nat.zero_le _) (by show (#[] ++ vs.toArray).size ≤ sizeLine + 1; rw [Array.size_append]; simp only [List.size_toArray, List.length_nil]; omega))
  refine wpAny_pure ?_
  show wpAny (model prog w) A (do
      let o' ← load s.heap.objs.size
      match o'.data with
      | .seq xs _ => pure xs.toList
      | _ => unsupported "internal:collect") Q E { s with heap := (s.heap.push (seqObj "list" #[] 0)).update s.heap.objs.size (Obj.mapSeq (· ++ vs.toArray)) }
  refine wpAny_bind (wpAny_load (get?_update_seq (Heap.get?_push_size _ rfl) _) ?_)
  show wpAny _ _ (pure ((#[] : Array Value) ++ vs.toArray).toList) Q E _
  have ee : ((#[] : Array Value) ++ vs.toArray).toList = vs := by simp
  rw [ee]
  exact wpAny_pure q
end
end My

namespace My
open PySem PySem.Spec PyProof.Rows L2
section
variable {prog : Program} {w : World} {A : Around} {E : Value → Shared → Prop} {s : Shared}
/-- sorted of a tuple, reverse=True -/
theorem sorted_revT {t : Addr} {vs : List Value} {ltv : Value → Value → Bool} {Q : Value → Shared → Prop} (O : SrtO.Swo ltv) (ht : s.heap.IsTuple t vs.toArray) (sz : vs.length ≤ sizeLine)
    (hS : 2 ≤ vs.length → ∀ (g : Heap) (a : Addr), g.get? a = some (seqObj "list" vs.toArray 0) → (∀ c o, s.heap.get? c = some o → c ≠ a ∧ g.get? c = some o) → SrtO.SortableO prog w A.in1.in1 { s with heap := g } a vs ltv)
    (q : ∀ out : List Value, SrtO.Srtd ltv out → SrtO.Stb ltv out vs.reverse → Q (.ref (s.heap.objs.size + 1)) { s with heap := sortedAll s.heap vs out.toArray.reverse }) :
    wpAny (model prog w) A (call (.builtin "sorted") [.ref t] [(Str.ofString "reverse", .bool true)]) Q E s := by
  refine call_function_entry_kw kind_sorted plain_sorted entry_sorted (PyProof.Rows.args_sorted_rev _ _) ?_
  unfold Builtin.«sorted»
  refine wpAny_bind (m := checkCount "sorted" 1 1 _) (wpAny_pure ?_)
  refine wpAny_bind (collect_tuple ht sz ?_)
  refine wpAny_bind (wpAny_newList ?_ sz)
  have gn : ((s.heap.push (seqObj "list" #[] 0)).update s.heap.objs.size (Obj.mapSeq (· ++ vs.toArray))).objs.size = s.heap.objs.size + 1 := by
    rw [Heap.size_update, size_push']
  have gL : (((s.heap.push (seqObj "list" #[] 0)).update s.heap.objs.size (Obj.mapSeq (· ++ vs.toArray))).push (seqObj "list" vs.toArray 0)).get? (s.heap.objs.size + 1) = some (seqObj "list" vs.toArray 0) := by
    rw [← gn]; exact Heap.get?_push_size _ rfl
  have gk : ∀ c o, s.heap.get? c = some o → c ≠ s.heap.objs.size + 1 ∧ (((s.heap.push (seqObj "list" #[] 0)).update s.heap.objs.size (Obj.mapSeq (· ++ vs.toArray))).push (seqObj "list" vs.toArray 0)).get? c = some o := fun c o e => by
    have lt : c < s.heap.objs.size := Heap.lt_size e
    refine ⟨Nat.ne_of_lt (Nat.lt_succ_of_lt lt), Heap.get?_push_of_some _ ?_⟩
    rw [Heap.get?_update_ne _ _ _ _ (Nat.ne_of_lt lt)]
    exact Heap.get?_push_of_some _ e
  show wpAny _ _ _ _ _ { s with heap := ((s.heap.push (seqObj "list" #[] 0)).update s.heap.objs.size (Obj.mapSeq (· ++ vs.toArray))).push (seqObj "list" vs.toArray 0) }
  rw [gn]
  refine wpAny_bind (wpAny_holding (wpAny_call_entry_kw slot_list_sort ⟨_, gL, rfl⟩ entry_list_sort ?_ (PyProof.Rows.args_list_sort_rev _ _)))
  refine SrtR.list_sort_ordR (b := true) O gL sz (fun h2 => hS h2 _ _ gL gk) fun out so sb => ⟨_, rfl, ?_⟩
  exact wpAny_pure ⟨_, rfl, q out so sb⟩
end
section
variable {X : Cx}
def rSortedRevT (K : PySem.W.Frag) : List V → List V → Hp → VK → Prop := fun vs zs H Q => ∃ (a : Addr) (ns : List Int), vs = [V.ref a] ∧ zs = [.bl true] ∧ SqT K H a (ns.map V.int) ∧
  ∀ (ms : List Int) (p : Addr), ms.Perm ns → ms.Pairwise (· ≥ ·) → H p = none → Q (.ref p) (upd H p (.lst (ms.map V.int)))
theorem one_bl {b : Bool} {ws : List Value} (h : Vals [V.bl b] ws) : ws = [.bool b] := by
  cases h with
  | cons r rr =>
    cases rr
    cases r
    rfl
theorem cr_sortedRevT : CallRK X (.builtin "sorted") [Str.ofString "reverse"] (rSortedRevT X.K) := by
  intro pins s σ H vs zs us ws Q I r rz h
  obtain ⟨a, ns, rfl, rfl, ht, q⟩ := h
  obtain rfl := Vals.ref1 r
  obtain rfl := one_bl rz
  obtain ⟨its, rv, hl, hz⟩ := I.tuple ht
  have hi := rv.ints
  refine sorted_revT SrtO.swo_int (show s.heap.IsTuple a its.toArray from hl) (by rw [← rv.length]; exact hz) (fun h2 g a' _ _ => SrtO.ints_sortable hi h2) fun out h1 h2 => ?_
  obtain ⟨ms, k1, k2, k3⟩ := SrtR.ints_outR (b := true) hi h1 h2
  obtain ⟨ep, he⟩ := PyProof.Rows.sortedAll_at s.heap its out.toArray.reverse
  have len : (ms.map V.int).length ≤ sizeLine := by
    rw [List.length_map] at hz
    rw [List.length_map, k2.length_eq]
    exact hz
  have k1' : IntsAre out.toArray.reverse.toList ms := k1
  have e0 : out.toArray.reverse.toList.toArray = out.toArray.reverse := Array.toArray_toList ..
  exact ⟨.ref _, upd H (s.heap.objs.size + 1) (.lst (ms.map V.int)), I.laid (t' := s.toks) (fun _ _ => PyProof.Rows.sortedAll_old) (Nat.le_succ _) ⟨len, _, ep, vals_of_ints k1', by rw [e0]; exact he⟩, rfl, q _ _ k2 k3 (I.hok.fresh (Nat.le_succ _))⟩
end
end My

namespace My
open PySem PySem.Spec PyProof.Rows L2
/-! zip of a list and a tuple -/
def ItzN (K : PySem.W.Frag) (a b : Addr) : It :=
  ⟨fun i H => ∃ (xs ys : List V) (x y : V), SqL K H a xs ∧ SqT K H b ys ∧ (xs[i]? = some x ∧ ys[i]? = some y),
    fun i H v H' => ∃ t x y, v = .ref t ∧ H t = none ∧ H' = upd H t (.tup [x, y]) ∧ (∀ xs, SqL K H a xs → xs[i]? = some x) ∧ (∀ ys, SqT K H b ys → ys[i]? = some y),
    fun i H => ∃ xs ys : List V, SqL K H a xs ∧ SqT K H b ys ∧ (i = xs.length ∨ i = ys.length) ∧ i ≤ xs.length ∧ i ≤ ys.length⟩
theorem turn_zipN {P : Program} {w : World} {K : PySem.W.Frag} {elts : List Expr} {kk : Nat} {tpos : Pos} {a b z TI TO i1 i2 : Addr} (D : ZipApart z TI TO i1 i2 a b) :
    Turn P w K (.Tuple elts kk tpos) (ItzN K a b) [z, TI, TO, i1, i2] z (fun i g => IsZip g z TI TO .none ∧ IsPair g TI (.ref i1) (.ref i2) ∧ (∃ x y, IsPair g TO x y) ∧ g.IsListIter i1 a i ∧ g.IsTupleIter i2 b i) where
  mem := List.mem_cons_self ..
  obj := fun i g st c hc => by
    obtain ⟨gz, gI, ⟨x, y, gO⟩, ⟨o1, e1, _, d1⟩, ⟨o2, e2, _, d2⟩⟩ := st
    rcases five hc with rfl | rfl | rfl | rfl | rfl
    · exact ⟨_, gz, fun v e => nomatch e⟩
    · exact ⟨_, gI, fun v e => nomatch e⟩
    · exact ⟨_, gO, fun v e => nomatch e⟩
    · exact ⟨o1, e1, fun v e => by rw [d1] at e; cases e⟩
    · exact ⟨o2, e2, fun v e => by rw [d2] at e; cases e⟩
  keep := fun i g g' st k => by
    obtain ⟨gz, gI, ⟨x, y, gO⟩, it1, it2⟩ := st
    exact ⟨k z (by simp) _ gz, k TI (by simp) _ gI, ⟨x, y, k TO (by simp) _ gO⟩, it1.at fun o e => k i1 (by simp) o e, it2.at fun o e => k i2 (by simp) o e⟩
  item := by
    intro X hP hw hK hc i pins s σ H E I hf st hg
    subst hP hw hK
    obtain ⟨gz, gI, ⟨x0, y0, gO⟩, it1, it2⟩ := st
    obtain ⟨xs, ys, x, y, tx, ly, ex, ey⟩ := hg
    obtain ⟨its, rv, p, _⟩ := I.list tx
    obtain ⟨its2, rv2, p2, _⟩ := I.tuple ly
    obtain ⟨u, hu, ru⟩ := rv.get ex
    obtain ⟨u2, hu2, ru2⟩ := rv2.get ey
    have hh : X.A.in1.handled = none := I.ok.hd hc
    have lz : z < s.heap.objs.size := Heap.lt_size gz
    have n1 : i < its.toArray.size := by rw [List.size_toArray]; exact (List.getElem?_eq_some_iff.mp hu).1
    have n2 : i < its2.toArray.size := by rw [List.size_toArray]; exact (List.getElem?_eq_some_iff.mp hu2).1
    refine wpAny_pyNext_zipD2_item (sep_of D) (Draws.list hh i1 a D.l1i1 its.toArray) (Draws.tuple hh i2 b D.l2i2 its2.toArray) gz gI gO ⟨it1, p.isList⟩ ⟨it2, p2⟩ n1 n2 fun v1 v2 g tk k1 k2 gz' gO' s1 s2 gT gn gk => ?_
    obtain rfl : v1 = u := by
      have : its[i]? = some v1 := by simpa using k1
      rw [hu] at this
      exact (Option.some.inj this).symm
    obtain rfl : v2 = u2 := by
      have : its2[i]? = some v2 := by simpa using k2
      rw [hu2] at this
      exact (Option.some.inj this).symm
    refine ⟨_, rfl, wpAny_letOwnedTupleGo_zip (s := { s with heap := g, toks := tk }) gz' fun g2 gz2 sb => ?_⟩
    have sb2 : ∀ c, c ≠ z → g2.get? c = g.get? c := sb.2
    have new2 : g2.get? s.heap.objs.size = some { cls := .type "tuple", data := .seq #[v1, v2] } := (sb2 _ (Nat.ne_of_gt lz)).trans gT
    have ok : ObjOk X.prog X.w (upd H s.heap.objs.size (.tup [x, y])) g2 s.heap.objs.size (.tup [x, y]) :=
      ⟨by show 2 ≤ sizeLine; decide, [v1, v2], .cons ru (.cons ru2 .nil), ⟨_, new2, rfl, _, rfl⟩⟩
    have J : Inv X pins σ (upd H s.heap.objs.size (.tup [x, y])) { s with heap := g2, toks := tk } :=
      I.turnedNew (t' := tk) (ch := [z, TI, TO, i1, i2]) (fun c o hn e => by
        obtain ⟨c1, c2, c3, c4⟩ := five_out hn
        exact (sb2 c c1).trans (gk c o c1 c2 c3 c4 e)) hf (Nat.le_refl _) ok
    refine ⟨.ref s.heap.objs.size, _, J, rfl, ⟨_, x, y, rfl, I.hok.fresh (Nat.le_refl _), rfl, fun l hl => by rw [I.list_inj hl tx]; exact ex, fun l hl => by rw [I.tuple_inj hl ly]; exact ey⟩, ⟨gz2, ?_, ⟨v1, v2, ?_⟩, ?_, ?_⟩, fun c hcm => ?_⟩
    · exact (sb2 _ D.TIz).trans (gk _ _ D.TIz D.TITO D.TIi1 D.TIi2 gI)
    · exact (sb2 _ D.TOz).trans gO'
    · exact s1.1.at fun o e => (sb2 _ D.i1z).trans e
    · exact s2.1.at fun o e => (sb2 _ D.i2z).trans e
    · have lt : c < s.heap.objs.size := by
        rcases five hcm with rfl | rfl | rfl | rfl | rfl
        · exact lz
        · exact Heap.lt_size gI
        · exact Heap.lt_size gO
        · obtain ⟨_, e1, _⟩ := it1; exact Heap.lt_size e1
        · obtain ⟨_, e2, _⟩ := it2; exact Heap.lt_size e2
      rw [upd_ne (Nat.ne_of_lt lt)]
      exact (hf c hcm).1
  done := by
    intro X hP hw hK hc i pins s σ H E I hf st hg
    subst hP hw hK
    obtain ⟨gz, gI, ⟨x0, y0, gO⟩, it1, it2⟩ := st
    obtain ⟨xs, ys, tx, ly, he, le1, le2⟩ := hg
    obtain ⟨its, rv, p, _⟩ := I.list tx
    obtain ⟨its2, rv2, p2, _⟩ := I.tuple ly
    have hh : X.A.in1.handled = none := I.ok.hd hc
    have l1 := rv.length
    have l2 := rv2.length
    have z1 : its.toArray.size = its.length := List.size_toArray ..
    have z2 : its2.toArray.size = its2.length := List.size_toArray ..
    exact wpAny_pyNext_zipD2_end (sep_of D) (Draws.list hh i1 a D.l1i1 its.toArray) (Draws.tuple hh i2 b D.l2i2 its2.toArray) gz gI gO ⟨it1, p.isList⟩ ⟨it2, p2⟩ (by omega) (by omega) (by omega) fun g tk gk => ⟨rfl, I.turnedL (t' := tk) (ch := [z, TI, TO, i1, i2]) (fun c o hn e => by
      obtain ⟨c1, c2, c3, c4⟩ := five_out hn
      exact gk c o c1 c2 c3 c4 e) hf⟩
  self := fun A i s Q E st h => wpAny_pyIter_zip st.1 h
def iZipN (K : PySem.W.Frag) (ta : TA) : L2.TI := fun σ H R => ta σ H fun vs H1 => ∃ a b xs ys, vs = [.ref a, .ref b] ∧ SqL K H1 a xs ∧ SqT K H1 b ys ∧ R (ItzN K a b) H1
theorem pi_zipN {X : Cx} {e e2 : Expr} {ta : TA} {p pos tpos : Pos} {elts : List Expr} {kk : Nat} (hg : Gl X "zip") (hm : X.mg "zip" = none) (ha : PA X [e, e2] ta)
    (st : starEach [e, e2] X.env = (false, eval e X.env) :: starEach [e2] X.env := by rfl) (pl : (backTo pos (starEach [e2] X.env)).any (·.1) = false := by rfl) :
    PI X (.Tuple elts kk tpos) (.Call (.Name "zip" p) [e, e2] [] pos) (iZipN X.K ta) := by
  refine ⟨fun pins s σ H R I h => ?_⟩
  refine Call_ (ld_blt I hg hm PyProof.Rows.boot_zip (PyProof.Rows.callWith_type1 (thn (ha.run pos pins s σ H _ I h) fun us s1 ⟨vs, H1, I1, r1, q1⟩ => ?_) st pl))
  obtain ⟨a, b, xs, ys, rfl, tx, ly, q⟩ := q1
  cases r1 with
  | cons r rr =>
  cases rr with
  | cons r' rr =>
  cases rr
  cases r
  cases r'
  obtain ⟨its, rv, p1, _⟩ := I1.list tx
  obtain ⟨its2, rv2, p2, _⟩ := I1.tuple ly
  obtain ⟨o1, ho1, _⟩ := id p1.isList
  obtain ⟨o2, ho2, _⟩ := id p2
  have la := Heap.lt_size ho1
  have lb := Heap.lt_size ho2
  refine zip_begins2 (begins_list a its.toArray) (begins_tuple b its2.toArray) p1.isList (show s1.heap.IsTuple b its2.toArray from p2) fun g gz gI gO g1 g2 gn gk => wpAny_pyIter_zip gz ?_
  have J : Inv X pins σ H1 { s1 with heap := g } := I1.kept (t' := s1.toks) gk
  refine ⟨s1.heap.objs.size + 4, [s1.heap.objs.size + 4, s1.heap.objs.size + 2, s1.heap.objs.size + 3, s1.heap.objs.size, s1.heap.objs.size + 1], _, _, H1, rfl, J, turn_zipN (PySem.W.ktu_apart s1.heap.objs.size a b la lb), ⟨gz, gI, ⟨_, _, gO⟩, ⟨_, g1, rfl, rfl⟩, ⟨_, g2, rfl, rfl⟩⟩, fun c hc => ?_, q⟩
  have le : s1.heap.objs.size ≤ c := by
    rcases five hc with rfl | rfl | rfl | rfl | rfl <;> omega
  exact I1.fpOk le (I1.hok.fresh le)
theorem for_zipN {K : PySem.W.Frag} {a b : Addr} {xs ys : List V} {g : TG} {tb : TS} {D : Ends} {σ : L2.St} {H : Hp} (hl : xs.length = ys.length) (Pv : Nat → L2.St → Hp → Prop) (h0 : Pv 0 σ H) (hq : ∀ i σ H, Pv i σ H → SqL K H a xs ∧ SqT K H b ys)
    (hs : ∀ (i : Nat) (x y : V) (t : Addr) (σ : L2.St) (H : Hp), xs[i]? = some x → ys[i]? = some y → Pv i σ H → H t = none → g (.ref t) σ (upd H t (.tup [x, y])) fun σ2 H2 => tb { D with nx := Pv (i + 1), ct := Pv (i + 1), bk := D.nx } σ2 H2) (hd : ∀ σ H, Pv xs.length σ H → D.nx σ H) :
    ∃ W : Nat → Nat → L2.St → Hp → Prop, (∃ m, W 0 m σ H) ∧ ∀ i m σ H, W i m σ H →
      ((ItzN K a b).stop i H ∧ D.nx σ H) ∨ ((ItzN K a b).go i H ∧ ∃ N : L2.St → Hp → Prop, (∀ σ' H', N σ' H' → ∃ m', m' < m ∧ W (i + 1) m' σ' H') ∧ ∀ v H', (ItzN K a b).yld i H v H' → g v σ H' fun σ2 H2 => tb { D with nx := N, ct := N, bk := D.nx } σ2 H2) := by
  refine ⟨fun i m σ H => i + m = xs.length ∧ Pv i σ H, ⟨xs.length, Nat.zero_add _, h0⟩, ?_⟩
  rintro i m σ H ⟨im, pv⟩
  obtain ⟨qx, qy⟩ := hq i σ H pv
  by_cases e : m = 0
  · have ei : i = xs.length := by omega
    subst ei
    exact .inl ⟨⟨xs, ys, qx, qy, .inl rfl, Nat.le_refl _, by omega⟩, hd σ H pv⟩
  · have li : i < xs.length := by omega
    have lj : i < ys.length := by omega
    refine .inr ⟨⟨xs, ys, _, _, qx, qy, List.getElem?_eq_getElem li, List.getElem?_eq_getElem lj⟩, Pv (i + 1), fun σ' H' p' => ⟨m - 1, by omega, by omega, p'⟩, fun v H' y => ?_⟩
    obtain ⟨t, x', y', rfl, ht, rfl, f1, f2⟩ := y
    exact hs i x' y' t σ H (f1 xs qx) (f2 ys qy) pv ht
end My

namespace My
open PySem PySem.Spec PyProof.Rows L2
/-! ### sorted, of pairs of a text and a whole number -/
def lexS (p q : Str × Int) : Bool := if p.1 = q.1 then decide (p.2 < q.2) else decide (p.1.cps.toList < q.1.cps.toList)
theorem str_ext {x y : Str} (h : x.cps.toList = y.cps.toList) : x = y := by
  cases x
  cases y
  simp only [Str.mk.injEq]
  exact Array.toList_inj.mp h
def leS (p q : Str × Int) : Prop := p.1.cps.toList < q.1.cps.toList ∨ (p.1 = q.1 ∧ p.2 ≤ q.2)
theorem lexS_no {p q : Str × Int} : lexS q p = false ↔ leS p q := by
  unfold lexS leS
  by_cases e : q.1 = p.1
  · rw [if_pos e, e, decide_eq_false_iff_not]
    constructor
    · intro h; exact .inr ⟨rfl, by omega⟩
    · rintro (h | ⟨_, h⟩)
      · exact absurd h (List.lt_irrefl _)
      · omega
  · rw [if_neg e, decide_eq_false_iff_not]
    constructor
    · intro h
      refine .inl ?_
      refine Classical.byContradiction fun z => e ?_
      exact str_ext (List.le_antisymm z h)
    · rintro (h | ⟨h, _⟩)
      · exact fun z => List.lt_irrefl _ (List.lt_trans h z)
      · exact absurd h.symm e
theorem leS_trans {p q r : Str × Int} (h : leS p q) (g : leS q r) : leS p r := by
  unfold leS at *
  rcases h with h | ⟨h, h'⟩ <;> rcases g with g | ⟨g, g'⟩
  · exact .inl (List.lt_trans h g)
  · rw [g] at h; exact .inl h
  · rw [← h] at g; exact .inl g
  · exact .inr ⟨h.trans g, by omega⟩
theorem leS_anti {p q : Str × Int} (h : leS p q) (g : leS q p) : p = q := by
  unfold leS at *
  rcases h with h | ⟨h, h'⟩ <;> rcases g with g | ⟨g, g'⟩
  · exact absurd (List.lt_trans h g) (List.lt_irrefl _)
  · rw [g] at h; exact absurd h (List.lt_irrefl _)
  · rw [h] at g; exact absurd g (List.lt_irrefl _)
  · exact Prod.ext h (by omega)
theorem leS_total (p q : Str × Int) : leS p q ∨ leS q p := by
  by_cases h : lexS q p = false
  · exact .inl (lexS_no.mp h)
  · refine .inr ?_
    have h' : lexS q p = true := by cases e : lexS q p with | true => rfl | false => exact absurd e h
    unfold lexS at h'
    unfold leS
    by_cases e : q.1 = p.1
    · rw [if_pos e] at h'
      have := of_decide_eq_true h'
      exact .inr ⟨e, by omega⟩
    · rw [if_neg e] at h'
      exact .inl (of_decide_eq_true h')
theorem swo_lexS {α : Type} (k : α → Str × Int) : SrtO.Swo fun v u => lexS (k v) (k u) := by
  refine ⟨fun x y h => lexS_no.mpr ?_, fun x y z h1 h2 => lexS_no.mpr (leS_trans (lexS_no.mp h1) (lexS_no.mp h2))⟩
  refine (leS_total (k x) (k y)).resolve_right fun z => ?_
  have := lexS_no.mpr z
  rw [h] at this
  cases this
def IsSI (h : Heap) (v : Value) (p : Str × Int) : Prop := ∃ (a : Addr) (o : Obj) (t u : Tok) (n : Nat), v = .ref a ∧ h.get? a = some o ∧ o.cls = .type "tuple" ∧ o.data = .seq #[.str p.1 t, .int p.2 u] n
section
variable {prog : Program} {w : World} {A : Around} {E : Value → Shared → Prop} {s : Shared}
theorem si_cmp {vs : List Value} {k : Value → Str × Int} (hp : ∀ v ∈ vs, IsSI s.heap v (k v)) : SrtO.Cmp prog w A s (tuples' true) (fun p => p.1 ∈ vs) (SrtO.lt2 fun v u => lexS (k v) (k u)) := by
  intro p q hm hm'
  have h1 := hp _ hm
  have h2 := hp _ hm'
  show wpAny (model prog w) A (keyLt' (tuples' true) p.1 q.1) (fun r s' => s' = s ∧ r = lexS (k p.1) (k q.1)) (fun _ _ => False) s
  unfold lexS
  obtain ⟨a, o, t, u, n, e, ho, hc, hd⟩ := h1
  obtain ⟨a', o', t', u', n', e', ho', hc', hd'⟩ := h2
  generalize (k p.1).1 = x at *
  generalize (k p.1).2 = y at *
  generalize (k q.1).1 = x' at *
  generalize (k q.1).2 = y' at *
  rw [e, e']
  refine PySem.W.kat_lt ho hd ho' hd' ?_
  show PySem.W.KatLex prog w A true (decide (2 < 2)) _ [(.str x t, .str x' t'), (.int y u, .int y' u')] 0 s
  refine PySem.W.kat_cons (SeqAt.EqAt.str_str x t x' t' prog w _ _ ?_)
  refine PySem.W.kat_go (fun e1 => ?_) (fun e1 => ?_)
  · have ex : x = x' := by simpa using e1
    refine PySem.W.kat_yes (PySem.W.kat_cons (SeqAt.EqAt.int_int y u y' u' prog w _ _ ?_))
    refine PySem.W.kat_go (fun e2 => ?_) (fun e2 => ?_)
    · have ey : y = y' := by simpa using e2
      refine PySem.W.kat_yes (PySem.W.kat_nil ⟨rfl, ?_⟩)
      rw [if_pos ex, ey]
      exact (decide_eq_false (Int.lt_irrefl _)).symm
    · refine PySem.W.kat_no (PySem.W.kat_one _ _ (PyProof.Rows.lt_int ?_))
      exact (show s = s ∧ decide (y < y') = _ from ⟨rfl, by rw [if_pos ex]⟩)
  · have ex : ¬ x = x' := by simpa using e1
    exact PySem.W.kat_no (oneLt_str ⟨rfl, by rw [if_neg ex]⟩)
theorem si_firsts {h : Heap} : ∀ {vs : List Value}, (∀ v ∈ vs, ∃ p, IsSI h v p) → ∃ fs : List Value, PySem.W.KatTups h vs fs ∧ fs.length = vs.length ∧ ∀ f ∈ fs, ∃ x t, f = .str x t
  | [], _ => ⟨[], PySem.W.KatTups.nil, rfl, fun f hf => absurd hf List.not_mem_nil⟩
  | v :: vs, hp => by
    obtain ⟨fs, h1, h2, h3⟩ := si_firsts (vs := vs) fun u hu => hp u (List.mem_cons_of_mem _ hu)
    obtain ⟨p, a, o, t, u, n, rfl, ho, hc, hd⟩ := hp v (List.mem_cons_self ..)
    refine ⟨.str p.1 t :: fs, PySem.W.KatTups.cons ho hc hd rfl h1, by rw [List.length_cons, List.length_cons, h2], fun f hf => ?_⟩
    rcases List.mem_cons.mp hf with rfl | hf
    · exact ⟨_, _, rfl⟩
    · exact h3 f hf
theorem si_sortable {a : Addr} {vs : List Value} {k : Value → Str × Int} (h0 : 0 < vs.length) (hp : ∀ v ∈ vs, IsSI s.heap v (k v)) (ha : ∀ o, s.heap.get? a = some o → o.cls ≠ .type "tuple") : SrtO.SortableO prog w A s a vs fun v u => lexS (k v) (k u) := by
  intro h' keep
  have hp' : ∀ v ∈ vs, IsSI h' v (k v) := fun v hm => by
    obtain ⟨b, o, t, u, n, e, ho, hc, hd⟩ := hp v hm
    exact ⟨b, o, t, u, n, e, keep b o (fun z => by subst z; exact ha o ho hc) ho, hc, hd⟩
  obtain ⟨fs, h1, h2, h3⟩ := si_firsts fun v hm => ⟨_, hp' v hm⟩
  refine ⟨tuples' true, fun Q E hq => ?_, si_cmp hp'⟩
  refine PySem.W.kat_kind (T := .type "str") h1 (by omega) (fun f hm => ?_) (by rfl) ?_
  · obtain ⟨x, t, rfl⟩ := h3 f hm
    exact PySem.W.Looks.now
  · have e : (Value.type "str" != Value.type "tuple") = true := by first | decide +kernel | rfl | decide
    rw [e]
    exact hq
end
section
variable {X : Cx}
def rSortedSI (K : PySem.W.Frag) : List V → Hp → VK → Prop := fun vs H Q => ∃ (a : Addr) (xs : List V) (k : V → Str × Int), vs = [V.ref a] ∧ SqL K H a xs ∧ (∀ x ∈ xs, ∃ t, x = V.ref t ∧ H t = some (.tup [.str (k x).1, .int (k x).2])) ∧
  ∀ (ys : List V) (p : Addr), ys.Pairwise (fun x y => leS (k x) (k y)) → ys.Perm xs → H p = none → Q (.ref p) (upd H p (.lst ys))
theorem cr_sortedSI : CallR X (.builtin "sorted") (rSortedSI X.K) := by
  intro pins s σ H vs us Q I r h
  obtain ⟨a, xs, k, rfl, hs, hx, q⟩ := h
  obtain ⟨its, rv, hl, hz⟩ := I.list hs
  obtain rfl := Vals.ref1 r
  obtain ⟨e1, e2⟩ := refs_back rv fun x m => by
    obtain ⟨t, e, _⟩ := hx x m
    exact ⟨t, e⟩
  have hp : ∀ v ∈ its, IsSI s.heap v (k (backV v)) := fun v hv => by
    obtain ⟨t, rfl⟩ := e2 v hv
    have hm : V.ref t ∈ xs := by rw [e1]; exact List.mem_map.mpr ⟨_, hv, rfl⟩
    obtain ⟨t', e, ht⟩ := hx _ hm
    cases e
    obtain ⟨_, its2, r2, o, ho, hc, n, hd⟩ := I.hok _ _ ht
    cases r2 with
    | cons ri rr =>
    cases rr with
    | cons rj rr =>
    cases rr
    obtain ⟨t1, rfl⟩ := ri
    obtain ⟨t2, rfl⟩ := rj
    exact ⟨t, o, t1, t2, n, rfl, ho, hc, hd⟩
  refine SrtO.sorted_ord (swo_lexS fun u => k (backV u)) hl.isList (by rw [← rv.length]; exact hz) (fun h2 g a' ga gk => ?_) fun out h1 h2 => ?_
  · refine si_sortable (s := { s with heap := g }) (by omega) (fun v hv => ?_) fun o e => ?_
    · obtain ⟨b, o, t, u, n, e, ho, hc, hd⟩ := hp v hv
      exact ⟨b, o, t, u, n, e, (gk b o ho).2, hc, hd⟩
    · have e' : some o = some (seqObj "list" its.toArray 0) := e.symm.trans ga
      cases e'
      intro c
      exact absurd (Value.type.inj c) (by decide)
  · have pm : out.Perm its := h2.perm
    have h3 : ∀ u ∈ out, ∃ a, u = Value.ref a := fun u hu => e2 u (pm.mem_iff.mp hu)
    obtain ⟨n, hn⟩ := PyProof.Rows.sortedAll_at s.heap its out.toArray
    refine ⟨.ref (s.heap.objs.size + 1), upd H (s.heap.objs.size + 1) (.lst (out.map backV)), I.laid (t' := s.toks) (fun _ _ => PyProof.Rows.sortedAll_old) (Nat.le_succ _) ⟨?_, out, n, vals_back h3, hn⟩, rfl, q _ _ ?_ ?_ (I.hok.fresh (Nat.le_succ _))⟩
    · rw [List.length_map, pm.length_eq, ← rv.length]; exact hz
    · rw [List.pairwise_map]
      exact List.Pairwise.imp (fun {x y} h => lexS_no.mp h) h1
    · rw [e1]; exact pm.map backV
end
end My

namespace My
open PySem PySem.Spec PyProof.Rows L2
/-! ### a list of anything, unlike an empty one -/
def rNeNil (K : PySem.W.Frag) : R2 := fun x y H Q => ∃ a b xs, x = .ref a ∧ y = .ref b ∧ SqL K H a xs ∧ SqL K H b [] ∧ Q (.bl (!xs.isEmpty)) H
theorem op_neNil {X : Cx} (hu' : X.A.units + 64 < cLine) : OpR X (compareOp .NotEq) (rNeNil X.K) := by
  intro pins s σ H x y v u Q I rx ry h
  have hu : X.A.units < cLine := by omega
  obtain ⟨a, b, xs, rfl, rfl, ha, hb, q⟩ := h
  obtain rfl : v = Value.ref a := rx
  obtain rfl : u = Value.ref b := ry
  obtain ⟨its, rv, ⟨o, n, ho, oc, _, od⟩, _⟩ := I.list ha
  obtain ⟨ins, rw', ⟨o', n', ho', oc', _, od'⟩, _⟩ := I.list hb
  have l1 := rv.length
  have l2 := rw'.length
  have ia : s.heap.IsList a its.toArray := ⟨o, ho, oc, n, od⟩
  have ib : s.heap.IsList b ins.toArray := ⟨o', ho', oc', n', od'⟩
  show wpAny (model X.prog X.w) X.A (richCompare .NotEq (.ref a) (.ref b)) _ _ s
  cases xs with
  | nil =>
    have z1 : its = [] := List.length_eq_zero_iff.mp (by rw [← l1]; rfl)
    have z2 : ins = [] := List.length_eq_zero_iff.mp (by rw [← l2]; rfl)
    subst z1 z2
    refine PySem.SeqAt.RcNeAt.lists (e := fun _ => true) ia ib rfl hu (fun j h1 => ?_) X.prog X.w _ _ ⟨.bl _, H, I, rfl, q⟩
    simp at h1
  | cons x xs =>
    have z2 : ins = [] := List.length_eq_zero_iff.mp (by rw [← l2]; rfl)
    subst z2
    refine PySem.SeqAt.RcNeAt.lists_lengths ia ib ?_ hu X.prog X.w _ _ ⟨.bl _, H, I, rfl, q⟩
    rw [List.length_cons] at l1
    simp [← l1]
theorem r_neNil {K : PySem.W.Frag} {H : Hp} {Q : VK} {p q : Addr} {xs : List V} (h : SqL K H p xs) (h' : SqL K H q []) (k : Q (.bl (!xs.isEmpty)) H) : rNeNil K (.ref p) (.ref q) H Q := ⟨p, q, xs, rfl, rfl, h, h', k⟩
/-! ### a tuple of anything, unlike the empty one -/
def rNeNilT (K : PySem.W.Frag) : R2 := fun x y H Q => ∃ a b xs, x = .ref a ∧ y = .ref b ∧ SqT K H a xs ∧ SqT K H b [] ∧ Q (.bl (!xs.isEmpty)) H
theorem op_neNilT {X : Cx} (hu' : X.A.units + 64 < cLine) : OpR X (compareOp .NotEq) (rNeNilT X.K) := by
  intro pins s σ H x y v u Q I rx ry h
  have hu : X.A.units < cLine := by omega
  obtain ⟨a, b, xs, rfl, rfl, ha, hb, q⟩ := h
  obtain rfl : v = Value.ref a := rx
  obtain rfl : u = Value.ref b := ry
  obtain ⟨its, rv, ⟨o, ho, oc, n, od⟩, _⟩ := I.tuple ha
  obtain ⟨ins, rw', ⟨o', ho', oc', n', od'⟩, _⟩ := I.tuple hb
  have l1 := rv.length
  have l2 := rw'.length
  have ia : s.heap.IsTuple a its.toArray := ⟨o, ho, oc, n, od⟩
  have ib : s.heap.IsTuple b ins.toArray := ⟨o', ho', oc', n', od'⟩
  have z2 : ins = [] := List.length_eq_zero_iff.mp (by rw [← l2]; rfl)
  subst z2
  show wpAny (model X.prog X.w) X.A (richCompare .NotEq (.ref a) (.ref b)) _ _ s
  refine PySem.SeqAt.RcNeAt.tuples (e := fun _ => true) ia ib hu (fun j h1 h2 => ?_) X.prog X.w _ _ ⟨.bl _, H, I, rfl, ?_⟩
  · simp at h2
  · have e : (!((List.range (min its.toArray.size (#[] : Array Value).size)).all (fun _ => true) && its.toArray.size == (#[] : Array Value).size)) = (!xs.isEmpty) := by
      cases xs with
      | nil =>
        have z1 : its = [] := List.length_eq_zero_iff.mp (by rw [← l1]; rfl)
        subst z1
        rfl
      | cons x xs =>
        rw [List.length_cons] at l1
        simp [← l1]
    rw [e]
    exact q
theorem r_neNilT {K : PySem.W.Frag} {H : Hp} {Q : VK} {p q : Addr} {xs : List V} (h : SqT K H p xs) (h' : SqT K H q []) (k : Q (.bl (!xs.isEmpty)) H) : rNeNilT K (.ref p) (.ref q) H Q := ⟨p, q, xs, rfl, rfl, h, h', k⟩
end My

namespace My
open PySem PySem.Spec PyProof.Rows L2
/-! ### a tuple with something in it, turned about -/
section
variable {P : Program} {w : World} {A : Around} {E : Value → Shared → Prop} {s : Shared}
theorem filterMap_range {α : Type} {n : Nat} {f g : Nat → Option α} (h : ∀ k, k < n → f k = g k) : (List.range n).filterMap f = (List.range n).filterMap g := by
  induction n with
  | zero => rfl
  | succ n ih =>
    rw [List.range_succ, List.filterMap_append, List.filterMap_append, ih fun k hk => h k (by omega)]
    congr 1
    simp only [List.filterMap_cons, List.filterMap_nil, h n (by omega)]
theorem pick_rev (l : List Value) : ((List.range l.length).filterMap fun (k : Nat) => l.toArray[((l.length : Int) - 1 + (k : Int) * -1).toNat]?).toArray = l.reverse.toArray := by
  congr 1
  have e : (List.range l.length).filterMap (fun (k : Nat) => l.toArray[((l.length : Int) - 1 + (k : Int) * -1).toNat]?) = (List.range l.reverse.toArray.size).filterMap (l.reverse.toArray[·]?) := by
    rw [List.size_toArray, List.length_reverse]
    refine filterMap_range fun k hk => ?_
    rw [List.getElem?_toArray, List.getElem?_toArray, List.getElem?_reverse hk]
    congr 1
    omega
  rw [e, PySem.W.krv_all]
open PySem.HandSPX in
theorem get_revT {t sl : Addr} {l : List Value} {vs : Value} {Q : Value → Shared → Prop} (hz : l.length ≤ sizeLine) (ht : IsTup s.heap t l.toArray) (hs : s.heap.IsSliceOf sl .none .none vs) (ps : IsPart vs (some (-1)))
    (k : Q (.ref s.heap.objs.size) { s with heap := s.heap.push { cls := .type "tuple", data := .seq l.reverse.toArray } }) : wpAny (model P w) A (getItem (.ref t) (.ref sl)) Q E s := by
  obtain ⟨os, hos, hcs, hds⟩ := id hs
  have hTs : s.TypeIs (.ref sl) "slice" := ⟨os, hos, hcs⟩
  unfold getItem
  try with_reducible refine wpAny_holding ?_
  first | refine wpAny_bind (wpAny_pure ?_) | skip
  refine wpAny_bind (wpAny_sequenceKey ht.typeIs (by decide) (wpAny_bind ?_))
  refine wpAny_callSpecial?_slot (name := Str.ofString "__getitem__") ht.typeIs PyProof.Rows.slot_tuple_getitem ?_
  refine wpAny_call_entry PyProof.Rows.slot_tuple_getitem ht.typeIs entry_tuple_getitem ?_ (args_tuple_getitem _ _)
  show wpAny _ _ (Builtin.Tuple.tupleItemsOf (.ref t) >>= _) _ _ s
  refine wpAny_bind (tupleItemsOf_ ht (wpAny_bind (wpAny_typeOf hTs ?_)))
  rw [if_pos (by decide)]
  have adj : ∀ n : Nat, Builtin.Slice.sliceAdjust none none (-1) (n : Int) = ((n : Int) - 1, -1) ∧ Builtin.Slice.slicePlaces ((n : Int) - 1) (-1) (-1) = n := fun n => by
    constructor
    · simp [Builtin.Slice.sliceAdjust]
    · unfold Builtin.Slice.slicePlaces
      rw [if_neg (by decide)]
      by_cases hn : n = 0
      · subst hn
        rfl
      rw [if_pos (by omega)]
      have : (((n : Int) - 1 - -1 - 1) / (- -1)) = (n : Int) - 1 := by
        rw [show (- -1 : Int) = 1 by decide, Int.ediv_one]
        omega
      rw [this]
      omega
  have ap : ∀ {R : Int × Int × Nat → Shared → Prop}, R ((l.length : Int) - 1, -1, l.length) s → wpAny (model P w) A.in1 (Builtin.Slice.sliceApplied (.ref sl) (pure (l.toArray.size : Int))) R E s := fun {R} q => by
    unfold Builtin.Slice.sliceApplied Builtin.Slice.sliceFields
    refine wpAny_bind (wpAny_bind (wpAny_field hos hds (x := .none) rfl (wpAny_bind (wpAny_field hos hds (x := .none) rfl (wpAny_bind (wpAny_field hos hds (x := vs) rfl (wpAny_pure ?_)))))))
    refine wpAny_bind (HT.slicePart_ ps ?_)
    show wpAny _ _ (if ((-1 : Int) == 0) = true then _ else _) _ _ s
    rw [if_neg (by decide)]
    exact wpAny_bind (PyProof.Rows.slicePart_none (wpAny_bind (PyProof.Rows.slicePart_none (wpAny_bind (wpAny_pure (wpAny_pure (by
      have := (adj l.length).2
      simp only [List.size_toArray, Option.getD_some, if_pos (show (-1 : Int) < 0 by decide)]
      rw [this]
      exact q)))))))
  refine wpAny_bind (ap ?_)
  show wpAny _ _ (if (((l.length : Int) - 1) == 0 && (-1 : Int) == 1 && l.length == l.toArray.size) = true then _ else _) _ _ s
  rw [if_neg (by simp)]
  have pick := pick_rev l
  rw [pick]
  have sz : sizeOk (.seq l.reverse.toArray) := by
    show l.reverse.toArray.size ≤ sizeLine
    rw [List.size_toArray, List.length_reverse]
    exact hz
  first
    | exact wpAny_bind (m := Builtin.Tuple.tupleExact _) (wpAny_newObj_type (wpAny_pure ⟨_, rfl, wpAny_pure k⟩) sz)
    | exact wpAny_bind (m := Builtin.Tuple.tupleExact _) (wpAny_newObj_type (wpAny_bind (wpAny_pure (wpAny_pure ⟨_, rfl, wpAny_pure k⟩))) sz)
    | exact wpAny_bind (wpAny_bind (m := Builtin.Tuple.tupleExact _) (wpAny_newObj_type (wpAny_pure ⟨_, rfl, wpAny_pure k⟩) sz))
end
section
variable {X : Cx}
def tRevT (K : PySem.W.Frag) (te : TE) : TE := fun σ H Q => te σ H fun x H1 => ∃ a xs, x = .ref a ∧ SqT K H1 a xs ∧ ∀ p, H1 p = none → Q (.ref p) (upd H1 p (.tup xs.reverse))
theorem pe_revT {e : Expr} {te : TE} {k : Nat} {p1 p2 p3 pos : Pos} (he : PE X e te) : PE X (.Subscript e (.Slice none none (some (.UnaryOp .USub (.Constant (.int 1) k p1) p2)) p3) pos) (tRevT X.K te) := by
  refine ⟨fun pins s σ H Q I h => ?_⟩
  refine Subscript_ (thn (he.run pins s σ H _ I h) fun v s1 ⟨x, H1, I1, r1, a, xs, ex, hx, q⟩ => ?_)
  subst ex
  cases r1
  have hst : PO X (some (.UnaryOp .USub (.Constant (.int 1) k p1) p2)) (tPart (tUn (rU fun i => .int (-i)) (tC (.int 1)))) := po_some (pe_un un_neg pe_int)
  refine wpAny_Slice (thn (po_none.run pins s1 σ H1 (fun o H2 => o = none ∧ H2 = H1) I1 ⟨rfl, rfl⟩) fun vl s2 ⟨l, H2, I2, pl, el, e2⟩ => ?_)
  subst el e2
  refine thn (po_none.run pins s2 σ H2 (fun o H3 => o = none ∧ H3 = H2) I2 ⟨rfl, rfl⟩) fun vu s3 ⟨u, H3, I3, pu, eu, e3⟩ => ?_
  subst eu e3
  refine thn (hst.run pins s3 σ H3 (fun o H4 => o = some (-1) ∧ H4 = H3) I3 ⟨1, rfl, -1, rfl, rfl, rfl⟩) fun vs s4 ⟨o, H4, I4, ps, eo, e4⟩ => ?_
  subst eo e4
  cases pl
  cases pu
  have I5 : Inv X pins σ H4 { s4 with heap := s4.heap.push { cls := .type "slice", data := .fields #[.none, .none, vs] } } := I4.kept (t' := s4.toks) fun b ob q => Heap.get?_push_of_some _ q
  obtain ⟨its, r, ht, hz⟩ := I5.tuple hx
  show wpAny (model X.prog X.w) X.A (subscriptTail e (.Slice none none (some (.UnaryOp .USub (.Constant (.int 1) k p1) p2)) p3) (.ref a) (.ref s4.heap.objs.size)) (EP X pins σ Q) X.xe { s4 with heap := s4.heap.push { cls := .type "slice", data := .fields #[.none, .none, vs] } }
  refine tail_any (ops := [.ref a, .ref s4.heap.objs.size]) ht.typeIs (PyProof.Rows.slot_tuple_getitem.lookup) ?_ (by with_unfolding_all rfl)
  refine get_revT (by rw [← r.length]; exact hz) ht (Heap.IsSliceOf.new _ .none .none vs) ps ?_
  refine ⟨.ref _, _, I5.laid (t' := s4.toks) (o := .tup xs.reverse) (fun b ob q => Heap.get?_push_of_some _ q) (Nat.le_refl _) ?_, rfl, q _ (I5.hok.fresh (Nat.le_refl _))⟩
  exact ⟨by rw [List.length_reverse]; exact hz, _, r.reverse, ⟨_, Heap.get?_push_size _ rfl, rfl, _, rfl⟩⟩
theorem r_revT {K : PySem.W.Frag} {te : TE} {σ : L2.St} {H : Hp} {Q : VK} (q : te σ H fun x H1 => ∃ a xs, x = .ref a ∧ SqT K H1 a xs ∧ ∀ p, H1 p = none → Q (.ref p) (upd H1 p (.tup xs.reverse))) : tRevT K te σ H Q := q
end
end My

namespace My
open PySem L2
theorem kit_own {K : PySem.W.Frag} {C : Addr} {T : String} {b : Bool} (h : PySem.W.subIn K (.ref C) (.type T) = some b) (m : PySem.W.kitMeta T = true) : PySem.W.kitOne K (.ref C) (.type T) = some b := by
  have ne : ((.ref C : Value) == .type T) = false := by simp
  unfold PySem.W.kitOne
  rw [ne, if_neg Bool.false_ne_true]
  show (if PySem.W.kitMeta T = true then _ else _) = _
  rw [if_pos m]
  exact h
def kinds66 : List String := ["NoneType", "bool", "int", "str", "tuple", "list", "dict"]
theorem kit_notown {K : PySem.W.Frag} {C : Addr} (i : PySem.W.isClsIn K C = true) (t : PySem.W.typeIn K (.ref C) = some (.type "type")) : ∀ n ∈ kinds66, PySem.W.kitOne K (.type n) (.ref C) = some false := by
  intro n hn
  have ne : ((.type n : Value) == .ref C) = false := by simp
  have i' : (PySem.W.clsIn K C).isSome = true := i
  have e2 : ((PySem.W.clsIn K C).isSome && PySem.W.typeIn K (.ref C) == some (.type "type")) = true := by rw [i', t] <;> rfl
  unfold PySem.W.kitOne
  rw [ne, if_neg Bool.false_ne_true]
  show (if ((PySem.W.clsIn K C).isSome && PySem.W.typeIn K (.ref C) == some (.type "type")) = true then _ else _) = _
  rw [if_pos e2]
  have go : ∀ (T : String) (l : List Value), PySem.fastBuiltinMro T = some l → (∀ v ∈ l, ∃ n, v = .type n) → PySem.W.subIn K (.type T) (.ref C) = some false := fun T l e h => by
    show (PySem.fastBuiltinMro T).map (·.contains (.ref C)) = some false
    rw [e]
    show some (l.contains (.ref C)) = some false
    congr 1
    refine Bool.eq_false_iff.mpr fun z => ?_
    have m := List.contains_iff_mem.mp z
    obtain ⟨n, q⟩ := h _ m
    cases q
  simp only [kinds66, List.mem_cons, List.not_mem_nil, or_false] at hn
  rcases hn with rfl | rfl | rfl | rfl | rfl | rfl | rfl
  · exact go "NoneType" [.type "NoneType", .type "object"] (by decide +kernel) (by simp)
  · exact go "bool" [.type "bool", .type "int", .type "object"] (by decide +kernel) (by simp)
  · exact go "int" [.type "int", .type "object"] (by decide +kernel) (by simp)
  · exact go "str" [.type "str", .type "object"] (by decide +kernel) (by simp)
  · exact go "tuple" [.type "tuple", .type "object"] (by decide +kernel) (by simp)
  · exact go "list" [.type "list", .type "object"] (by decide +kernel) (by simp)
  · exact go "dict" [.type "dict", .type "object"] (by decide +kernel) (by simp)
end My

namespace My
open PySem L2
def top (i : Nat) : Stmt := PySem.Challenge.pw_figuretexts_k66_sum_papers_spoilt.main.body.getD i (.Pass ⟨0, 0, 0, 0⟩)
abbrev s_is_whole : Stmt := top 3
theorem sc_is_whole : FnScope ["thing"] ["thing"] (defScope s_is_whole) := ⟨rfl, rfl, rfl, by decide +kernel, rfl, by decide +kernel, by decide +kernel⟩
abbrev s_Number_init : Stmt := inClass (top 7) 0
theorem sc_Number_init : FnScope ["self", "top", "bottom", "common"] ["self", "top", "bottom"] (defScope s_Number_init) := ⟨rfl, rfl, rfl, by decide +kernel, rfl, by decide +kernel, by decide +kernel⟩
abbrev s_Number_str : Stmt := inClass (top 7) 2
theorem sc_Number_str : FnScope ["self"] ["self"] (defScope s_Number_str) := ⟨rfl, rfl, rfl, by decide +kernel, rfl, by decide +kernel, by decide +kernel⟩
abbrev s_Number_repr : Stmt := inClass (top 7) 3
theorem sc_Number_repr : FnScope ["self"] ["self"] (defScope s_Number_repr) := ⟨rfl, rfl, rfl, by decide +kernel, rfl, by decide +kernel, by decide +kernel⟩
abbrev s_Number_more : Stmt := inClass (top 7) 4
theorem sc_Number_more : FnScope ["self", "other"] ["self", "other"] (defScope s_Number_more) := ⟨rfl, rfl, rfl, by decide +kernel, rfl, by decide +kernel, by decide +kernel⟩
abbrev s_Number_less : Stmt := inClass (top 7) 5
theorem sc_Number_less : FnScope ["self", "other"] ["self", "other"] (defScope s_Number_less) := ⟨rfl, rfl, rfl, by decide +kernel, rfl, by decide +kernel, by decide +kernel⟩
abbrev s_Number_over : Stmt := inClass (top 7) 7
theorem sc_Number_over : FnScope ["self", "other"] ["self", "other"] (defScope s_Number_over) := ⟨rfl, rfl, rfl, by decide +kernel, rfl, by decide +kernel, by decide +kernel⟩
abbrev s_Number_below : Stmt := inClass (top 7) 8
theorem sc_Number_below : FnScope ["self", "other"] ["self", "other"] (defScope s_Number_below) := ⟨rfl, rfl, rfl, by decide +kernel, rfl, by decide +kernel, by decide +kernel⟩
abbrev s_Number_floor : Stmt := inClass (top 7) 10
theorem sc_Number_floor : FnScope ["self"] ["self"] (defScope s_Number_floor) := ⟨rfl, rfl, rfl, by decide +kernel, rfl, by decide +kernel, by decide +kernel⟩
abbrev s_total_of : Stmt := top 8
theorem sc_total_of : FnScope ["numbers", "half"] ["numbers"] (defScope s_total_of) := ⟨rfl, rfl, rfl, by decide +kernel, rfl, by decide +kernel, by decide +kernel⟩
abbrev s_sum_holds : Stmt := top 10
theorem sc_sum_holds : FnScope ["parts", "step", "thing", "counts", "paper", "part", "count"] ["parts", "step", "thing"] (defScope s_sum_holds) := ⟨rfl, rfl, rfl, by decide +kernel, rfl, by decide +kernel, by decide +kernel⟩
abbrev s_is_told : Stmt := top 11
theorem sc_is_told : FnScope ["thing", "many", "count"] ["thing", "many"] (defScope s_is_told) := ⟨rfl, rfl, rfl, by decide +kernel, rfl, by decide +kernel, by decide +kernel⟩
abbrev s_is_put_so : Stmt := top 12
theorem sc_is_put_so : FnScope ["steps", "count", "paper", "off", "beyond"] ["steps", "count", "paper"] (defScope s_is_put_so) := ⟨rfl, rfl, rfl, by decide +kernel, rfl, by decide +kernel, by decide +kernel⟩
abbrev s_is_rounded : Stmt := top 13
theorem sc_is_rounded : FnScope ["steps", "total", "doubled"] ["steps", "total"] (defScope s_is_rounded) := ⟨rfl, rfl, rfl, by decide +kernel, rfl, by decide +kernel, by decide +kernel⟩
abbrev s_round_paper : Stmt := top 16
theorem sc_round_paper : FnScope ["number", "step", "way", "low", "high", "part", "rule"] ["number", "step", "way"] (defScope s_round_paper) := ⟨rfl, rfl, rfl, by decide +kernel, rfl, by decide +kernel, by decide +kernel⟩
abbrev s_place_of : Stmt := top 17
theorem sc_place_of : FnScope ["number", "step", "steps", "low", "part", "high"] ["number", "step"] (defScope s_place_of) := ⟨rfl, rfl, rfl, by decide +kernel, rfl, by decide +kernel, by decide +kernel⟩
abbrev s_by_up : Stmt := top 18
theorem sc_by_up : FnScope ["low", "part"] ["low", "part"] (defScope s_by_up) := ⟨rfl, rfl, rfl, by decide +kernel, rfl, by decide +kernel, by decide +kernel⟩
abbrev s_by_down : Stmt := top 19
theorem sc_by_down : FnScope ["low", "part"] ["low", "part"] (defScope s_by_down) := ⟨rfl, rfl, rfl, by decide +kernel, rfl, by decide +kernel, by decide +kernel⟩
abbrev s_by_high : Stmt := top 20
theorem sc_by_high : FnScope ["low", "part"] ["low", "part"] (defScope s_by_high) := ⟨rfl, rfl, rfl, by decide +kernel, rfl, by decide +kernel, by decide +kernel⟩
abbrev s_by_low : Stmt := top 21
theorem sc_by_low : FnScope ["low", "part"] ["low", "part"] (defScope s_by_low) := ⟨rfl, rfl, rfl, by decide +kernel, rfl, by decide +kernel, by decide +kernel⟩
abbrev s_by_half_up : Stmt := top 22
theorem sc_by_half_up : FnScope ["low", "part"] ["low", "part"] (defScope s_by_half_up) := ⟨rfl, rfl, rfl, by decide +kernel, rfl, by decide +kernel, by decide +kernel⟩
abbrev s_by_half_down : Stmt := top 23
theorem sc_by_half_down : FnScope ["low", "part"] ["low", "part"] (defScope s_by_half_down) := ⟨rfl, rfl, rfl, by decide +kernel, rfl, by decide +kernel, by decide +kernel⟩
abbrev s_by_half_even : Stmt := top 24
theorem sc_by_half_even : FnScope ["low", "part"] ["low", "part"] (defScope s_by_half_even) := ⟨rfl, rfl, rfl, by decide +kernel, rfl, by decide +kernel, by decide +kernel⟩
abbrev s_by_half_odd : Stmt := top 25
theorem sc_by_half_odd : FnScope ["low", "part"] ["low", "part"] (defScope s_by_half_odd) := ⟨rfl, rfl, rfl, by decide +kernel, rfl, by decide +kernel, by decide +kernel⟩
abbrev s_nearer : Stmt := top 26
theorem sc_nearer : FnScope ["part", "at_half", "doubled"] ["part", "at_half"] (defScope s_nearer) := ⟨rfl, rfl, rfl, by decide +kernel, rfl, by decide +kernel, by decide +kernel⟩
abbrev s_parts_rounded : Stmt := top 29
theorem sc_parts_rounded : FnScope ["parts", "step", "places", "lows", "beyond", "total", "greater", "counts", "part", "low", "_", "at"] ["parts", "step"] (defScope s_parts_rounded) := ⟨rfl, rfl, rfl, by decide +kernel, rfl, by decide +kernel, by decide +kernel⟩
abbrev s_furthest_first : Stmt := top 30
theorem sc_furthest_first : FnScope ["beyond", "bottom", "part", "ranks", "at", "_"] ["beyond"] (defScope s_furthest_first) := ⟨rfl, rfl, rfl, by decide +kernel, rfl, by decide +kernel, by decide +kernel⟩
abbrev s_l_well : Stmt := top 32
theorem sc_l_well : FnScope ["_law_script", "_law_k", "_law_cell"] ["_law_script", "_law_k"] (defScope s_l_well) := ⟨rfl, rfl, rfl, by decide +kernel, rfl, by decide +kernel, by decide +kernel⟩
abbrev s_l_take : Stmt := top 33
theorem sc_l_take : FnScope ["_law_well_here", "_law_top", "_law_digit", "_law_number"] ["_law_well_here", "_law_top"] (defScope s_l_take) := ⟨rfl, rfl, rfl, by decide +kernel, rfl, by decide +kernel, by decide +kernel⟩
abbrev s_l_step : Stmt := top 34
theorem sc_l_step : FnScope ["_law_well_here", "_law_some"] ["_law_well_here"] (defScope s_l_step) := ⟨rfl, rfl, rfl, by decide +kernel, rfl, by decide +kernel, by decide +kernel⟩
abbrev s_l_parts : Stmt := top 35
theorem sc_l_parts : FnScope ["_law_well_here", "_law_by", "_law_most", "_law_way", "_law_found", "_law_k", "_law_dozen", "_law_count", "_law_rest", "_law_part"] ["_law_well_here", "_law_by", "_law_most"] (defScope s_l_parts) := ⟨rfl, rfl, rfl, by decide +kernel, rfl, by decide +kernel, by decide +kernel⟩
abbrev s_l_beyond : Stmt := top 36
theorem sc_l_beyond : FnScope ["_law_parts_here", "_law_by", "_law_found", "_law_top", "_law_bottom", "_law_over", "_law_under"] ["_law_parts_here", "_law_by"] (defScope s_l_beyond) := ⟨rfl, rfl, rfl, by decide +kernel, rfl, by decide +kernel, by decide +kernel⟩
abbrev s_l_steps : Stmt := top 37
theorem sc_l_steps : FnScope ["_law_parts_here", "_law_by", "_law_top", "_law_bottom", "_law_over", "_law_under", "_law_wide", "_law_low", "_law_rest"] ["_law_parts_here", "_law_by"] (defScope s_l_steps) := ⟨rfl, rfl, rfl, by decide +kernel, rfl, by decide +kernel, by decide +kernel⟩
abbrev s_l_counts : Stmt := top 38
theorem sc_l_counts : FnScope ["_law_parts_here", "_law_by", "_law_rows", "_law_left", "_law_counts_here", "_law_turn", "_law_best", "_law_k", "_law_row"] ["_law_parts_here", "_law_by"] (defScope s_l_counts) := ⟨rfl, rfl, rfl, by decide +kernel, rfl, by decide +kernel, by decide +kernel⟩
abbrev s_l_holds : Stmt := top 39
theorem sc_l_holds : FnScope ["_law_parts_here", "_law_by", "_law_thing", "_law_counts_here", "_law_paper", "_law_one", "_law_row", "_law_far"] ["_law_parts_here", "_law_by", "_law_thing"] (defScope s_l_holds) := ⟨rfl, rfl, rfl, by decide +kernel, rfl, by decide +kernel, by decide +kernel⟩
abbrev s_l_made : Stmt := top 40
theorem sc_l_made : FnScope ["_law_parts_here", "_law_top", "_law_bottom"] ["_law_parts_here"] (defScope s_l_made) := ⟨rfl, rfl, rfl, by decide +kernel, rfl, by decide +kernel, by decide +kernel⟩
abbrev s_l_odd : Stmt := top 41
theorem sc_l_odd : FnScope ["_law_well_here", "_law_thing", "_law_some", "_law_at"] ["_law_well_here", "_law_thing"] (defScope s_l_odd) := ⟨rfl, rfl, rfl, by decide +kernel, rfl, by decide +kernel, by decide +kernel⟩
abbrev s_l_bent : Stmt := top 42
theorem sc_l_bent : FnScope ["_law_well_here", "_law_thing", "_law_deep", "_law_at"] ["_law_well_here", "_law_thing", "_law_deep"] (defScope s_l_bent) := ⟨rfl, rfl, rfl, by decide +kernel, rfl, by decide +kernel, by decide +kernel⟩
abbrev s_law : Stmt := top 43
theorem sc_law : FnScope ["_law_script", "_law_well_here", "_law_ways", "_law_great", "_law_by", "_law_parts_here", "_law_made_here", "_law_step_made", "_law_good", "_law_mine", "_law_things", "_law_deep", "_law_further", "_law_twice", "_law_bent_here", "_law_kept", "_law_thing", "_law_told", "_law_turn"] ["_law_script"] (defScope s_law) := ⟨rfl, rfl, rfl, by decide +kernel, rfl, by decide +kernel, by decide +kernel⟩
structure Txt (w : World) (K : PySem.W.Frag) (mg : Str → Option Value) where
  C_Number : Addr
  m_Number : mg "Number" = some (.ref C_Number)
  c_Number : Cls K C_Number
  n_Number_top : NoAttr K C_Number "top"
  n_Number_bottom : NoAttr K C_Number "bottom"
  ty_Number_c : PySem.W.findIn K (.ref C_Number) "__class__" = some (some (.builtin "object.__class__"))
  ty_Number_g : PySem.W.specialIn K (.builtin "object.__class__") "__get__" = some (some (.builtin "getset_descriptor.__get__"))
  ty_Number_t : PySem.W.takesIn K (.builtin "object.__class__") = some true
  ty_Number_m : PySem.W.mroIn K C_Number (.type "object") = some true
  ty_Number_k : PySem.W.kitOne K (.ref C_Number) (.ref C_Number) = some true
  ne_Number : PySem.W.findIn K (.ref C_Number) "__ne__" = some (some (.builtin "object.__ne__"))
  f_is_whole : Addr
  fd_is_whole : FuncData
  F_is_whole : Fun K "is_whole" "is_whole" s_is_whole f_is_whole fd_is_whole
  m_is_whole : mg "is_whole" = some (.ref f_is_whole)
  b_is_whole : Binds K fd_is_whole ["thing"] []
  f_Number_init : Addr
  fd_Number_init : FuncData
  F_Number_init : FunD K "__init__" "Number.__init__" (defArgs s_Number_init) (defBody s_Number_init) (defScope s_Number_init) [V.int 1] [] f_Number_init fd_Number_init
  mk_Number : Mk K C_Number f_Number_init
  b_Number_init2 : Binds K fd_Number_init ["self", "top", "bottom"] []
  ds_Number_init1 : List Value
  d_Number_init1 : Vals [V.int 1] ds_Number_init1
  b_Number_init1 : Binds K fd_Number_init ["self", "top", "bottom"] ds_Number_init1
  f_Number_str : Addr
  fd_Number_str : FuncData
  F_Number_str : Fun K "__str__" "Number.__str__" s_Number_str f_Number_str fd_Number_str
  me_Number_str : Meth K C_Number "__str__" f_Number_str
  b_Number_str : Binds K fd_Number_str ["self"] []
  f_Number_repr : Addr
  fd_Number_repr : FuncData
  F_Number_repr : Fun K "__repr__" "Number.__repr__" s_Number_repr f_Number_repr fd_Number_repr
  me_Number_repr : Meth K C_Number "__repr__" f_Number_repr
  b_Number_repr : Binds K fd_Number_repr ["self"] []
  f_Number_more : Addr
  fd_Number_more : FuncData
  F_Number_more : Fun K "more" "Number.more" s_Number_more f_Number_more fd_Number_more
  me_Number_more : Meth K C_Number "more" f_Number_more
  b_Number_more : Binds K fd_Number_more ["self", "other"] []
  f_Number_less : Addr
  fd_Number_less : FuncData
  F_Number_less : Fun K "less" "Number.less" s_Number_less f_Number_less fd_Number_less
  me_Number_less : Meth K C_Number "less" f_Number_less
  b_Number_less : Binds K fd_Number_less ["self", "other"] []
  f_Number_over : Addr
  fd_Number_over : FuncData
  F_Number_over : Fun K "over" "Number.over" s_Number_over f_Number_over fd_Number_over
  me_Number_over : Meth K C_Number "over" f_Number_over
  b_Number_over : Binds K fd_Number_over ["self", "other"] []
  f_Number_below : Addr
  fd_Number_below : FuncData
  F_Number_below : Fun K "below" "Number.below" s_Number_below f_Number_below fd_Number_below
  me_Number_below : Meth K C_Number "below" f_Number_below
  b_Number_below : Binds K fd_Number_below ["self", "other"] []
  f_Number_floor : Addr
  fd_Number_floor : FuncData
  F_Number_floor : Fun K "floor" "Number.floor" s_Number_floor f_Number_floor fd_Number_floor
  me_Number_floor : Meth K C_Number "floor" f_Number_floor
  b_Number_floor : Binds K fd_Number_floor ["self"] []
  f_total_of : Addr
  fd_total_of : FuncData
  F_total_of : Fun K "total_of" "total_of" s_total_of f_total_of fd_total_of
  m_total_of : mg "total_of" = some (.ref f_total_of)
  b_total_of : Binds K fd_total_of ["numbers"] []
  f_sum_holds : Addr
  fd_sum_holds : FuncData
  F_sum_holds : Fun K "sum_holds" "sum_holds" s_sum_holds f_sum_holds fd_sum_holds
  m_sum_holds : mg "sum_holds" = some (.ref f_sum_holds)
  b_sum_holds : Binds K fd_sum_holds ["parts", "step", "thing"] []
  f_is_told : Addr
  fd_is_told : FuncData
  F_is_told : Fun K "_is_told" "_is_told" s_is_told f_is_told fd_is_told
  m_is_told : mg "_is_told" = some (.ref f_is_told)
  b_is_told : Binds K fd_is_told ["thing", "many"] []
  f_is_put_so : Addr
  fd_is_put_so : FuncData
  F_is_put_so : Fun K "_is_put_so" "_is_put_so" s_is_put_so f_is_put_so fd_is_put_so
  m_is_put_so : mg "_is_put_so" = some (.ref f_is_put_so)
  b_is_put_so : Binds K fd_is_put_so ["steps", "count", "paper"] []
  f_is_rounded : Addr
  fd_is_rounded : FuncData
  F_is_rounded : Fun K "_is_rounded" "_is_rounded" s_is_rounded f_is_rounded fd_is_rounded
  m_is_rounded : mg "_is_rounded" = some (.ref f_is_rounded)
  b_is_rounded : Binds K fd_is_rounded ["steps", "total"] []
  f_round_paper : Addr
  fd_round_paper : FuncData
  F_round_paper : FunD K "round_paper" "round_paper" (defArgs s_round_paper) (defBody s_round_paper) (defScope s_round_paper) [] [(("way" : Str), V.str "half even")] f_round_paper fd_round_paper
  m_round_paper : mg "round_paper" = some (.ref f_round_paper)
  kb_round_paper : KBn K fd_round_paper ["number", "step", "way"] 2 ["way"] (fun us ws => us ++ ws) (fun vs zs => vs ++ zs)
  ds_round_paper : List Value
  d_round_paper : Vals [V.str "half even"] ds_round_paper
  b_round_paper : Binds K fd_round_paper ["number", "step", "way"] ds_round_paper
  f_place_of : Addr
  fd_place_of : FuncData
  F_place_of : Fun K "place_of" "place_of" s_place_of f_place_of fd_place_of
  m_place_of : mg "place_of" = some (.ref f_place_of)
  b_place_of : Binds K fd_place_of ["number", "step"] []
  f_by_up : Addr
  fd_by_up : FuncData
  F_by_up : Fun K "_by_up" "_by_up" s_by_up f_by_up fd_by_up
  m_by_up : mg "_by_up" = some (.ref f_by_up)
  b_by_up : Binds K fd_by_up ["low", "part"] []
  f_by_down : Addr
  fd_by_down : FuncData
  F_by_down : Fun K "_by_down" "_by_down" s_by_down f_by_down fd_by_down
  m_by_down : mg "_by_down" = some (.ref f_by_down)
  b_by_down : Binds K fd_by_down ["low", "part"] []
  f_by_high : Addr
  fd_by_high : FuncData
  F_by_high : Fun K "_by_high" "_by_high" s_by_high f_by_high fd_by_high
  m_by_high : mg "_by_high" = some (.ref f_by_high)
  b_by_high : Binds K fd_by_high ["low", "part"] []
  f_by_low : Addr
  fd_by_low : FuncData
  F_by_low : Fun K "_by_low" "_by_low" s_by_low f_by_low fd_by_low
  m_by_low : mg "_by_low" = some (.ref f_by_low)
  b_by_low : Binds K fd_by_low ["low", "part"] []
  f_by_half_up : Addr
  fd_by_half_up : FuncData
  F_by_half_up : Fun K "_by_half_up" "_by_half_up" s_by_half_up f_by_half_up fd_by_half_up
  m_by_half_up : mg "_by_half_up" = some (.ref f_by_half_up)
  b_by_half_up : Binds K fd_by_half_up ["low", "part"] []
  f_by_half_down : Addr
  fd_by_half_down : FuncData
  F_by_half_down : Fun K "_by_half_down" "_by_half_down" s_by_half_down f_by_half_down fd_by_half_down
  m_by_half_down : mg "_by_half_down" = some (.ref f_by_half_down)
  b_by_half_down : Binds K fd_by_half_down ["low", "part"] []
  f_by_half_even : Addr
  fd_by_half_even : FuncData
  F_by_half_even : Fun K "_by_half_even" "_by_half_even" s_by_half_even f_by_half_even fd_by_half_even
  m_by_half_even : mg "_by_half_even" = some (.ref f_by_half_even)
  b_by_half_even : Binds K fd_by_half_even ["low", "part"] []
  f_by_half_odd : Addr
  fd_by_half_odd : FuncData
  F_by_half_odd : Fun K "_by_half_odd" "_by_half_odd" s_by_half_odd f_by_half_odd fd_by_half_odd
  m_by_half_odd : mg "_by_half_odd" = some (.ref f_by_half_odd)
  b_by_half_odd : Binds K fd_by_half_odd ["low", "part"] []
  f_nearer : Addr
  fd_nearer : FuncData
  F_nearer : Fun K "_nearer" "_nearer" s_nearer f_nearer fd_nearer
  m_nearer : mg "_nearer" = some (.ref f_nearer)
  b_nearer : Binds K fd_nearer ["part", "at_half"] []
  f_parts_rounded : Addr
  fd_parts_rounded : FuncData
  F_parts_rounded : Fun K "parts_rounded" "parts_rounded" s_parts_rounded f_parts_rounded fd_parts_rounded
  m_parts_rounded : mg "parts_rounded" = some (.ref f_parts_rounded)
  b_parts_rounded : Binds K fd_parts_rounded ["parts", "step"] []
  f_furthest_first : Addr
  fd_furthest_first : FuncData
  F_furthest_first : Fun K "_furthest_first" "_furthest_first" s_furthest_first f_furthest_first fd_furthest_first
  m_furthest_first : mg "_furthest_first" = some (.ref f_furthest_first)
  b_furthest_first : Binds K fd_furthest_first ["beyond"] []
  f_l_well : Addr
  fd_l_well : FuncData
  F_l_well : Fun K "_law_well" "_law_well" s_l_well f_l_well fd_l_well
  m_l_well : mg "_law_well" = some (.ref f_l_well)
  b_l_well : Binds K fd_l_well ["_law_script", "_law_k"] []
  f_l_take : Addr
  fd_l_take : FuncData
  F_l_take : Fun K "_law_take" "_law_take" s_l_take f_l_take fd_l_take
  m_l_take : mg "_law_take" = some (.ref f_l_take)
  b_l_take : Binds K fd_l_take ["_law_well_here", "_law_top"] []
  f_l_step : Addr
  fd_l_step : FuncData
  F_l_step : Fun K "_law_step" "_law_step" s_l_step f_l_step fd_l_step
  m_l_step : mg "_law_step" = some (.ref f_l_step)
  b_l_step : Binds K fd_l_step ["_law_well_here"] []
  f_l_parts : Addr
  fd_l_parts : FuncData
  F_l_parts : Fun K "_law_parts" "_law_parts" s_l_parts f_l_parts fd_l_parts
  m_l_parts : mg "_law_parts" = some (.ref f_l_parts)
  b_l_parts : Binds K fd_l_parts ["_law_well_here", "_law_by", "_law_most"] []
  f_l_beyond : Addr
  fd_l_beyond : FuncData
  F_l_beyond : Fun K "_law_beyond" "_law_beyond" s_l_beyond f_l_beyond fd_l_beyond
  m_l_beyond : mg "_law_beyond" = some (.ref f_l_beyond)
  b_l_beyond : Binds K fd_l_beyond ["_law_parts_here", "_law_by"] []
  f_l_steps : Addr
  fd_l_steps : FuncData
  F_l_steps : Fun K "_law_steps" "_law_steps" s_l_steps f_l_steps fd_l_steps
  m_l_steps : mg "_law_steps" = some (.ref f_l_steps)
  b_l_steps : Binds K fd_l_steps ["_law_parts_here", "_law_by"] []
  f_l_counts : Addr
  fd_l_counts : FuncData
  F_l_counts : Fun K "_law_counts" "_law_counts" s_l_counts f_l_counts fd_l_counts
  m_l_counts : mg "_law_counts" = some (.ref f_l_counts)
  b_l_counts : Binds K fd_l_counts ["_law_parts_here", "_law_by"] []
  f_l_holds : Addr
  fd_l_holds : FuncData
  F_l_holds : Fun K "_law_holds" "_law_holds" s_l_holds f_l_holds fd_l_holds
  m_l_holds : mg "_law_holds" = some (.ref f_l_holds)
  b_l_holds : Binds K fd_l_holds ["_law_parts_here", "_law_by", "_law_thing"] []
  f_l_made : Addr
  fd_l_made : FuncData
  F_l_made : Fun K "_law_made" "_law_made" s_l_made f_l_made fd_l_made
  m_l_made : mg "_law_made" = some (.ref f_l_made)
  b_l_made : Binds K fd_l_made ["_law_parts_here"] []
  f_l_odd : Addr
  fd_l_odd : FuncData
  F_l_odd : Fun K "_law_odd" "_law_odd" s_l_odd f_l_odd fd_l_odd
  m_l_odd : mg "_law_odd" = some (.ref f_l_odd)
  b_l_odd : Binds K fd_l_odd ["_law_well_here", "_law_thing"] []
  f_l_bent : Addr
  fd_l_bent : FuncData
  F_l_bent : Fun K "_law_bent" "_law_bent" s_l_bent f_l_bent fd_l_bent
  m_l_bent : mg "_law_bent" = some (.ref f_l_bent)
  b_l_bent : Binds K fd_l_bent ["_law_well_here", "_law_thing", "_law_deep"] []
  f_law : Addr
  fd_law : FuncData
  F_law : Fun K "law" "law" s_law f_law fd_law
  m_law : mg "law" = some (.ref f_law)
  b_law : Binds K fd_law ["_law_script"] []
  kN_tuple : PySem.W.kitOne K (.ref C_Number) (.type "tuple") = some false
  kN_int : PySem.W.kitOne K (.ref C_Number) (.type "int") = some false
  kN_bool : PySem.W.kitOne K (.ref C_Number) (.type "bool") = some false
  kN_not : ∀ n ∈ kinds66, PySem.W.kitOne K (.type n) (.ref C_Number) = some false
  m_gcd : mg "gcd" = some (.builtin "math.gcd")
  m_lcm : mg "lcm" = some (.builtin "math.lcm")
  n_range : mg "range" = none
  n_isinstance : mg "isinstance" = none
  n_str : mg "str" = none
  n_int : mg "int" = none
  n_list : mg "list" = none
  n_len : mg "len" = none
  n_abs : mg "abs" = none
  n_max : mg "max" = none
  n_bool : mg "bool" = none
  n_repr : mg "repr" = none
  n_tuple : mg "tuple" = none
  n_all : mg "all" = none
  n_sum : mg "sum" = none
  n_sorted : mg "sorted" = none
  n_zip : mg "zip" = none
  n_enumerate : mg "enumerate" = none
  D_RULES : Addr
  m_RULES : mg "RULES" = some (.ref D_RULES)
  es_RULES : Array DictEntry
  en_RULES : Nat
  l_RULES : K.lookup D_RULES = some ⟨.type "dict", none, .dict es_RULES en_RULES, #[]⟩
  k_RULES : PySem.W.KeysLit w.params es_RULES.toList
  rule_by_up : PySem.W.nsIn K D_RULES "up" = some (some (.ref f_by_up))
  rule_by_down : PySem.W.nsIn K D_RULES "down" = some (some (.ref f_by_down))
  rule_by_high : PySem.W.nsIn K D_RULES "high" = some (some (.ref f_by_high))
  rule_by_low : PySem.W.nsIn K D_RULES "low" = some (some (.ref f_by_low))
  rule_by_half_up : PySem.W.nsIn K D_RULES "half up" = some (some (.ref f_by_half_up))
  rule_by_half_down : PySem.W.nsIn K D_RULES "half down" = some (some (.ref f_by_half_down))
  rule_by_half_even : PySem.W.nsIn K D_RULES "half even" = some (some (.ref f_by_half_even))
  rule_by_half_odd : PySem.W.nsIn K D_RULES "half odd" = some (some (.ref f_by_half_odd))

section
variable {P : Program} {w : World} {K : PySem.W.Frag} {mg : Str → Option Value} {base : Heap}
/-! ### Number -/
def nf (q : Rat) : List (Str × V) := [("top", .int q.num), ("bottom", .int (q.den : Int))]
theorem tb_ : ¬ (("top" : Str) = "bottom") := by decide +kernel
theorem bt_ : ¬ (("bottom" : Str) = "top") := by decide +kernel
theorem nf_put (a b : Int) : putF "bottom" (.int b) (putF "top" (.int a) []) = ([("top", V.int a), ("bottom", V.int b)] : List (Str × V)) := by
  show (if ("top" : Str) = "bottom" then [(("top" : Str), V.int b)] else (("top" : Str), V.int a) :: putF "bottom" (V.int b) []) = ([("top", V.int a), ("bottom", V.int b)] : List (Str × V))
  rw [if_neg tb_]
  all_goals rfl
theorem nf_top (q : Rat) : (nf q).lookup ("top" : Str) = some (.int q.num) := by
  have e : (("top" : Str) == "top") = true := by decide +kernel
  unfold nf
  simp only [List.lookup, e]
theorem nf_bottom (q : Rat) : (nf q).lookup ("bottom" : Str) = some (.int (q.den : Int)) := by
  have e : (("bottom" : Str) == "top") = false := by decide +kernel
  have e' : (("bottom" : Str) == "bottom") = true := by decide +kernel
  unfold nf
  simp only [List.lookup, e, e']
theorem nf_no (q : Rat) {m : Str} (h1 : (m == "top") = false) (h2 : (m == "bottom") = false) : (nf q).lookup m = none := by
  unfold nf
  simp only [List.lookup, h1, h2]
/-- the Number q stands at p -/
def NumAt (C : Addr) (H : Hp) (p : Addr) (q : Rat) : Prop := ∃ dx, H p = some (.ins C dx (nf q))
theorem NumAt.same {C : Addr} {H H' : Hp} {p : Addr} {q : Rat} (s : Same H H') (h : NumAt C H p q) : NumAt C H' p q := let ⟨dx, e⟩ := h; ⟨dx, s _ _ e⟩

def spInit (C : Addr) : Sp := fun vs H Q _ => ∃ (p dx : Addr) (t b : Int), vs = [.ref p, .int t, .int b] ∧ H p = some (.ins C dx []) ∧ b ≠ 0 ∧ b.natAbs < 2 ^ 9000 ∧ Q .non (upd H p (.ins C dx (nf (Rat.divInt t b))))
theorem ok_Number_init (T : Txt w K mg) : FnOk P w K mg base CX0 1 T.f_Number_init T.fd_Number_init ["self", "top", "bottom"] (spInit T.C_Number) := by
  refine T.F_Number_init.ok sc_Number_init (fun vs H Q E h => ?_) (fun cdv A outer s H vs Q E hr h => ?_)
  · obtain ⟨p, dx, t, b, rfl, _⟩ := h
    rfl
  · obtain ⟨p, dx, t, b, rfl, hp, hb, hl, k⟩ := h
    refine ⟨_, (pss_cons (ps_if (pt_cmpR op_eq (pv 2) pe_int (nomark _))
  (pss_one ps_never)
  pss_nil)
 (pss_cons (ps_set (i := 3) sc_Number_init.nd rfl (Or.inl rfl) (pe_callBfun cr_gcd (by rfl) T.m_gcd (pa_cons (pv 1) (pa_cons (pv 2) pa_nil))))
 (pss_cons (ps_if (pt_cmpR op_lt (pv 2) pe_int (nomark _))
  (pss_one (ps_set (i := 3) sc_Number_init.nd rfl (Or.inl rfl) (pe_un un_neg (pv 3))))
  pss_nil)
 (pss_cons (ps_fld (pv 0) (pe_op op_fdivA (pv 1) (pv 3)) rfl)
 (pss_one (ps_fld (pv 0) (pe_op op_fdivA (pv 2) (pv 3)) rfl)))))), ?_⟩
    walk_at "rd"
    refine r_iteF (decide_eq_false hb) ?_
    walk_at "rd"
    refine ⟨_, _, rfl, ?_⟩
    have fin : ∀ c : Int, c = cdiv t b → sFld K (tVar 0) (tOp (rI CDivA fun i j => .int (i.fdiv j)) (tVar 1) (tVar 3)) "top" ⟨sFld K (tVar 0) (tOp (rI CDivA fun i j => .int (i.fdiv j)) (tVar 2) (tVar 3)) "bottom" ⟨fun _ H' => Q .non H', Q, fun _ _ => False, fun _ _ => False⟩, Q, fun _ _ => False, fun _ _ => False⟩ [some (.ref p), some (.int t), some (.int b), some (.int c)] H := by
      rintro c rfl
      have hg := gcd_pos (t := t) hb
      have hc : CDivA t (cdiv t b) ∧ CDivA b (cdiv t b) := by
        have n0 : cdiv t b ≠ 0 := by unfold cdiv; split <;> omega
        have nb : (cdiv t b).natAbs < 2 ^ 9000 := by
          have le : Nat.gcd t.natAbs b.natAbs ≤ b.natAbs := Nat.le_of_dvd (by omega) (Nat.gcd_dvd_right _ _)
          have e : (cdiv t b).natAbs = Nat.gcd t.natAbs b.natAbs := by unfold cdiv; split <;> omega
          rw [e]
          exact Nat.lt_of_le_of_lt le hl
        exact ⟨cdivA n0 nb (by decide) (Nat.le_refl _), cdivA n0 nb (by decide) (Nat.le_refl _)⟩
      walk_at "rd"
      refine r_I hc.1 ?_
      walk_at "rd"
      refine ⟨p, T.C_Number, dx, [], rfl, hp, T.c_Number, T.n_Number_top, (by show 0 < 1000; decide), ?_⟩
      walk_at "rd"
      refine r_I hc.2 ?_
      walk_at "rd"
      refine ⟨p, T.C_Number, dx, _, rfl, upd_same, T.c_Number, T.n_Number_bottom, (by show 1 < 1000; decide), ?_⟩
      show Q .non (upd (upd H p _) p (.ins T.C_Number dx (putF "bottom" _ (putF "top" _ []))))
      rw [upd_upd, nf_put, num_of hb, den_of hb]
      exact k
    walk_at "rd"
    refine r_ite (fun hn => ?_) (fun hn => ?_)
    · iterate 5 walk_at "rd1"
      refine fin _ ?_
      unfold cdiv
      rw [if_pos (of_decide_eq_true hn)]
    · iterate 1 walk_at "rd1"
      refine fin _ ?_
      unfold cdiv
      rw [if_neg (of_decide_eq_false hn)]
end
end My
local macro_rules | `(tactic| walk_at "fld") => `(tactic| refine My.r_fld (by assumption) (by assumption) (by assumption) (by first | exact My.nf_top _ | exact My.nf_bottom _) ?_)
local macro_rules | `(tactic| walk_at "rdf") => `(tactic| (repeat (first | walk_at "rd1" | walk_at "fld")))


namespace My
open PySem L2
section
variable {P : Program} {w : World} {K : PySem.W.Frag} {mg : Str → Option Value} {base : Heap}
/-- a Number made at once -/
theorem mk_num {C : Addr} {H : Hp} {t b : Int} {R : Addr → Hp → Prop} {E : XK} (hb : b ≠ 0) (hl : b.natAbs < 2 ^ 9000) (q : ∀ (p : Addr) (H' : Hp), Same H H' → H p = none → NumAt C H' p (Rat.divInt t b) → R p H') :
    ∀ x dx, H x = none → H dx = none → dx ≠ x → spInit C (.ref x :: ([V.int t, V.int b] ++ [])) (upd (upd H dx (.own x)) x (.ins C dx [])) (fun v H2 => v = .non ∧ R x H2) E := by
  intro x dx nx ndx ne
  refine ⟨x, dx, t, b, rfl, upd_same, hb, hl, rfl, q x _ (fun y o e => ?_) nx ⟨dx, upd_same⟩⟩
  rw [upd_ne (ne_of_none e nx), upd_ne (ne_of_none e nx), upd_ne (ne_of_none e ndx)]
  exact e
theorem mk_num1 {C : Addr} {H : Hp} {t : Int} {R : Addr → Hp → Prop} {E : XK} (q : ∀ (p : Addr) (H' : Hp), Same H H' → H p = none → NumAt C H' p (t : Rat) → R p H') :
    ∀ x dx, H x = none → H dx = none → dx ≠ x → spInit C (.ref x :: ([V.int t] ++ [V.int 1])) (upd (upd H dx (.own x)) x (.ins C dx [])) (fun v H2 => v = .non ∧ R x H2) E :=
  mk_num (by decide) (Nat.lt_of_lt_of_le (by decide : Int.natAbs 1 < 2 ^ 1) (Nat.pow_le_pow_right (by decide) (by decide))) fun p H' s n h => q p H' s n (divInt_one t ▸ h)
/-- two Numbers in, one out -/
def spBin (C : Addr) (f : Rat → Rat → Rat) (ok : Rat → Rat → Prop) : Sp := fun vs H Q _ => ∃ (p q : Addr) (x y : Rat), vs = [.ref p, .ref q] ∧ NumAt C H p x ∧ NumAt C H q y ∧ Bd 4000 x ∧ Bd 4000 y ∧ ok x y ∧
  ∀ (r : Addr) (H' : Hp), Same H H' → H r = none → NumAt C H' r (f x y) → Q (.ref r) H'
theorem bd_den {n : Nat} {x : Rat} (h : Bd n x) : ((x.den : Nat) : Int).natAbs < 2 ^ n := by have := h.2; omega
theorem dd_ne (x y : Rat) : (x.den : Int) * (y.den : Int) ≠ 0 := Int.mul_ne_zero (den_ne x) (den_ne y)
theorem dd_lt {x y : Rat} (hx : Bd 4000 x) (hy : Bd 4000 y) : ((x.den : Int) * (y.den : Int)).natAbs < 2 ^ 9000 := natAbs_mul_lt (bd_den hx) (bd_den hy) (by decide)
theorem cm {i j : Int} (hi : i.natAbs < 2 ^ 4000) (hj : j.natAbs < 2 ^ 4000) : CMulW i j := wide_mul hi hj (by decide) (by decide) (by decide)
end
end My

namespace My
open PySem L2
section
variable {P : Program} {w : World} {K : PySem.W.Frag} {mg : Str → Option Value} {base : Heap}
theorem ok_Number_less (T : Txt w K mg) : FnOk P w K mg base CX0 3 T.f_Number_less T.fd_Number_less ["self", "other"] (spBin T.C_Number (fun x y => x - y) fun _ _ => True) := by
  refine T.F_Number_less.ok sc_Number_less (fun vs H Q E h => ?_) (fun cdv A outer s H vs Q E hr h => ?_)
  · obtain ⟨p, q, x, y, rfl, _⟩ := h
    rfl
  · obtain ⟨p, q, x, y, rfl, ⟨dx, hp⟩, ⟨dy, hq⟩, bx, by', _, k⟩ := h
    have cN := T.c_Number
    have nT := T.n_Number_top
    have nB := T.n_Number_bottom
    refine ⟨_, (pss_one (ps_ret (pe_make T.mk_Number (ok_Number_init T) (hr.mono (by decide)) (by rfl) T.m_Number T.b_Number_init2 .nil pass0 (pa_cons (pe_op op_sub (pe_op op_mulW (pe_fld (pv 0) rfl) (pe_fld (pv 1) rfl)) (pe_op op_mulW (pe_fld (pv 1) rfl) (pe_fld (pv 0) rfl))) (pa_cons (pe_op op_mulW (pe_fld (pv 0) rfl) (pe_fld (pv 1) rfl)) pa_nil))))), ?_⟩
    walk_at "rdf"
    refine r_I (cm bx.1 (bd_den by')) ?_
    walk_at "rdf"
    refine r_I (cm by'.1 (bd_den bx)) ?_
    walk_at "rdf"
    refine r_I (cm (bd_den bx) (bd_den by')) ?_
    walk_at "rdf"
    refine mk_num (dd_ne x y) (dd_lt bx by') fun r H' s n h => ?_
    rw [sub_eq] at h
    exact k r H' s n h
end
end My

namespace My
open PySem L2
section
variable {P : Program} {w : World} {K : PySem.W.Frag} {mg : Str → Option Value} {base : Heap}
theorem ok_Number_over (T : Txt w K mg) : FnOk P w K mg base CX0 3 T.f_Number_over T.fd_Number_over ["self", "other"] (spBin T.C_Number (fun x y => x / y) fun _ y => y ≠ 0) := by
  refine T.F_Number_over.ok sc_Number_over (fun vs H Q E h => ?_) (fun cdv A outer s H vs Q E hr h => ?_)
  · obtain ⟨p, q, x, y, rfl, _⟩ := h
    rfl
  · obtain ⟨p, q, x, y, rfl, ⟨dx, hp⟩, ⟨dy, hq⟩, bx, by', y0, k⟩ := h
    have cN := T.c_Number
    have nT := T.n_Number_top
    have nB := T.n_Number_bottom
    refine ⟨_, (pss_cons (ps_if (pt_cmpR op_eq (pe_fld (pv 1) rfl) pe_int (nomark _))
  (pss_one ps_never)
  pss_nil)
 (pss_one (ps_ret (pe_make T.mk_Number (ok_Number_init T) (hr.mono (by decide)) (by rfl) T.m_Number T.b_Number_init2 .nil pass0 (pa_cons (pe_op op_mulW (pe_fld (pv 0) rfl) (pe_fld (pv 1) rfl)) (pa_cons (pe_op op_mulW (pe_fld (pv 0) rfl) (pe_fld (pv 1) rfl)) pa_nil)))))), ?_⟩
    walk_at "rdf"
    refine r_iteF (decide_eq_false (num_ne y0)) ?_
    walk_at "rdf"
    refine r_I (cm bx.1 (bd_den by')) ?_
    walk_at "rdf"
    refine r_I (cm (bd_den bx) by'.1) ?_
    walk_at "rdf"
    refine mk_num (Int.mul_ne_zero (den_ne x) (num_ne y0)) (natAbs_mul_lt (bd_den bx) by'.1 (by decide)) fun r H' s n h => ?_
    rw [div_eq] at h
    exact k r H' s n h
end
end My

namespace My
open PySem L2
section
variable {P : Program} {w : World} {K : PySem.W.Frag} {mg : Str → Option Value} {base : Heap}
def spFloor (C : Addr) : Sp := fun vs H Q _ => ∃ (p : Addr) (x : Rat), vs = [.ref p] ∧ NumAt C H p x ∧ Bd 8000 x ∧ Q (.int x.floor) H
theorem ok_Number_floor (T : Txt w K mg) : FnOk P w K mg base CX0 1 T.f_Number_floor T.fd_Number_floor ["self"] (spFloor T.C_Number) := by
  refine T.F_Number_floor.ok sc_Number_floor (fun vs H Q E h => ?_) (fun cdv A outer s H vs Q E hr h => ?_)
  · obtain ⟨p, x, rfl, _⟩ := h
    rfl
  · obtain ⟨p, x, rfl, ⟨dx, hp⟩, bx, k⟩ := h
    have cN := T.c_Number
    have nT := T.n_Number_top
    have nB := T.n_Number_bottom
    refine ⟨_, (pss_one (ps_ret (pe_op op_fdivW (pe_fld (pv 0) rfl) (pe_fld (pv 0) rfl)))), ?_⟩
    walk_at "rdf"
    refine r_I (wide_div (by have := x.den_pos; omega) (bd_den bx) (by decide) (by decide)) ?_
    show Q (.int (x.num / (x.den : Int))) H
    rw [← Rat.floor_def]
    exact k
end
end My

namespace My
open PySem L2
section
variable {P : Program} {w : World} {K : PySem.W.Frag} {mg : Str → Option Value} {base : Heap}
theorem Bd.add {m n : Nat} {x y : Rat} (hx : Bd m x) (hy : Bd n y) : Bd (m + n + 1) (x + y) := by
  rw [← add_eq]
  refine Bd.of (Int.mul_ne_zero (den_ne x) (den_ne y)) ?_ ?_
  · exact natAbs_add_lt (natAbs_mul_lt (m := m) (n := n) hx.1 (by have := hy.2; omega) (Nat.le_refl _)) (natAbs_mul_lt (m := n) (n := m) hy.1 (by have := hx.2; omega) (by omega))
  · exact natAbs_mul_lt (m := m) (n := n) (by have := hx.2; omega) (by have := hy.2; omega) (by omega)
theorem no_more (q : Rat) : (nf q).lookup ("more" : Str) = none := nf_no _ (by decide +kernel) (by decide +kernel)
theorem ok_Number_more (T : Txt w K mg) : FnOk P w K mg base CX0 3 T.f_Number_more T.fd_Number_more ["self", "other"] (spBin T.C_Number (fun x y => x + y) fun _ _ => True) := by
  refine T.F_Number_more.ok sc_Number_more (fun vs H Q E h => ?_) (fun cdv A outer s H vs Q E hr h => ?_)
  · obtain ⟨p, q, x, y, rfl, _⟩ := h
    rfl
  · obtain ⟨p, q, x, y, rfl, ⟨dx, hp⟩, ⟨dy, hq⟩, bx, by', _, k⟩ := h
    have cN := T.c_Number
    have nT := T.n_Number_top
    have nB := T.n_Number_bottom
    refine ⟨_, (pss_one (ps_ret (pe_make T.mk_Number (ok_Number_init T) (hr.mono (by decide)) (by rfl) T.m_Number T.b_Number_init2 .nil pass0 (pa_cons (pe_op op_add (pe_op op_mulW (pe_fld (pv 0) rfl) (pe_fld (pv 1) rfl)) (pe_op op_mulW (pe_fld (pv 1) rfl) (pe_fld (pv 0) rfl))) (pa_cons (pe_op op_mulW (pe_fld (pv 0) rfl) (pe_fld (pv 1) rfl)) pa_nil))))), ?_⟩
    walk_at "rdf"
    refine r_I (cm bx.1 (bd_den by')) ?_
    walk_at "rdf"
    refine r_I (cm by'.1 (bd_den bx)) ?_
    walk_at "rdf"
    refine r_I (cm (bd_den bx) (bd_den by')) ?_
    walk_at "rdf"
    refine mk_num (dd_ne x y) (dd_lt bx by') fun r H' s n h => ?_
    rw [add_eq] at h
    exact k r H' s n h
end
end My

namespace My
open PySem L2
section
variable {P : Program} {w : World} {K : PySem.W.Frag} {mg : Str → Option Value} {base : Heap}
theorem no_below (q : Rat) : (nf q).lookup ("below" : Str) = none := nf_no _ (by decide +kernel) (by decide +kernel)
def spBelow (C : Addr) : Sp := fun vs H Q _ => ∃ (p q : Addr) (x y : Rat), vs = [.ref p, .ref q] ∧ NumAt C H p x ∧ NumAt C H q y ∧ Bd 4000 x ∧ Bd 4000 y ∧ Q (.bl (decide (x < y))) H
theorem ok_Number_below (T : Txt w K mg) : FnOk P w K mg base CX0 1 T.f_Number_below T.fd_Number_below ["self", "other"] (spBelow T.C_Number) := by
  refine T.F_Number_below.ok sc_Number_below (fun vs H Q E h => ?_) (fun cdv A outer s H vs Q E hr h => ?_)
  · obtain ⟨p, q, x, y, rfl, _⟩ := h
    rfl
  · obtain ⟨p, q, x, y, rfl, ⟨dx, hp⟩, ⟨dy, hq⟩, bx, by', k⟩ := h
    have cN := T.c_Number
    have nT := T.n_Number_top
    have nB := T.n_Number_bottom
    refine ⟨_, (pss_one (ps_ret (pe_cmpR op_lt (pe_op op_mulW (pe_fld (pv 0) rfl) (pe_fld (pv 1) rfl)) (pe_op op_mulW (pe_fld (pv 1) rfl) (pe_fld (pv 0) rfl)) (nomark _)))), ?_⟩
    rw [lt_dec] at k
    walk_at "rdf"
    refine r_I (cm bx.1 (bd_den by')) ?_
    walk_at "rdf"
    refine r_I (cm by'.1 (bd_den bx)) ?_
    walk_at "rdf"
    exact k
end
end My

namespace My
open PySem L2
/-! ### Numbers in a row, and their sum by halves -/
inductive NumsV (C : Addr) (H : Hp) : List V → List Rat → Prop where
  | nil : NumsV C H [] []
  | cons {p : Addr} {x : Rat} {vs : List V} {xs : List Rat} : NumAt C H p x → NumsV C H vs xs → NumsV C H (.ref p :: vs) (x :: xs)
theorem NumsV.same {C : Addr} {H H' : Hp} (s : Same H H') {vs : List V} {xs : List Rat} (h : NumsV C H vs xs) : NumsV C H' vs xs := by
  induction h with
  | nil => exact .nil
  | cons a _ ih => exact .cons (a.same s) ih
theorem NumsV.len {C : Addr} {H : Hp} {vs : List V} {xs : List Rat} (h : NumsV C H vs xs) : vs.length = xs.length := by
  induction h with
  | nil => rfl
  | cons _ _ ih => rw [List.length_cons, List.length_cons, ih]
theorem NumsV.take {C : Addr} {H : Hp} {vs : List V} {xs : List Rat} (h : NumsV C H vs xs) : ∀ n, NumsV C H (vs.take n) (xs.take n) := by
  induction h with
  | nil => intro n; rw [List.take_nil, List.take_nil]; exact .nil
  | cons a _ ih =>
    intro n
    cases n with
    | zero => exact .nil
    | succ n => exact .cons a (ih n)
theorem NumsV.drop {C : Addr} {H : Hp} {vs : List V} {xs : List Rat} (h : NumsV C H vs xs) : ∀ n, NumsV C H (vs.drop n) (xs.drop n) := by
  induction h with
  | nil => intro n; rw [List.drop_nil, List.drop_nil]; exact .nil
  | cons a b ih =>
    intro n
    cases n with
    | zero => exact .cons a b
    | succ n => exact ih n
theorem NumsV.get {C : Addr} {H : Hp} {vs : List V} {xs : List Rat} (h : NumsV C H vs xs) : ∀ {i : Nat} {v : V}, vs[i]? = some v → ∃ p x, v = .ref p ∧ xs[i]? = some x ∧ NumAt C H p x := by
  induction h with
  | nil => intro i v z; simp at z
  | @cons p x _ _ a _ ih =>
    intro i v z
    cases i with
    | zero => exact ⟨p, x, (Option.some.inj z).symm, rfl, a⟩
    | succ i => exact ih z
/-- a tuple of Numbers -/
def PartsAt (C : Addr) (H : Hp) (p : Addr) (xs : List Rat) : Prop := ∃ vs, H p = some (.tup vs) ∧ NumsV C H vs xs
theorem PartsAt.same {C : Addr} {H H' : Hp} {p : Addr} {xs : List Rat} (s : Same H H') (h : PartsAt C H p xs) : PartsAt C H' p xs := let ⟨vs, a, b⟩ := h; ⟨vs, s _ _ a, b.same s⟩
theorem sumQ_append : ∀ a b : List Rat, sumQ (a ++ b) = sumQ a + sumQ b
  | [], b => by show sumQ b = 0 + sumQ b; grind
  | x :: a, b => by
    show x + sumQ (a ++ b) = x + sumQ a + sumQ b
    rw [sumQ_append a b]
    grind
theorem cut_toQ {xs : List V} {n : Nat} : cutV xs none (some (n : Int)) = xs.take n := by
  unfold cutV
  rw [HT.sIx_none, HT.sIx_nat, List.drop_zero, Nat.sub_zero]
  by_cases h : n ≤ xs.length
  · rw [Nat.min_eq_left h]
  · rw [Nat.min_eq_right (by omega), List.take_of_length_le (Nat.le_refl _), List.take_of_length_le (by omega)]
theorem cut_fromQ {xs : List V} {n : Nat} : cutV xs (some (n : Int)) none = xs.drop n := by
  unfold cutV
  rw [HT.sIx_none, HT.sIx_nat]
  by_cases h : n ≤ xs.length
  · rw [Nat.min_eq_left h, List.take_of_length_le (by rw [List.length_drop]; exact Nat.le_refl _)]
  · rw [Nat.min_eq_right (by omega), List.drop_eq_nil_of_le (Nat.le_refl _), List.drop_eq_nil_of_le (by omega : xs.length ≤ n), List.take_nil]
theorem cut_wholeQ {xs : List V} {lo hi : Option Int} (h : HT.sIx xs.length 0 lo = 0 ∧ HT.sIx xs.length xs.length hi = xs.length) : cutV xs lo hi = xs := by
  unfold cutV
  rw [h.1, h.2, List.drop_zero, Nat.sub_zero, List.take_of_length_le (Nat.le_refl _)]
theorem r_cutP {K : PySem.W.Frag} {H : Hp} {a : Addr} {xs : List V} {lo hi : Option Int} {Q : VK} (h : H a = some (.tup xs)) (q : ∀ (b : Addr) (H' : Hp), Same H H' → H' b = some (.tup (cutV xs lo hi)) → Q (.ref b) H') : rSlA K (.ref a) lo hi H Q :=
  ⟨a, xs, rfl, SqT.of h, fun z => q a H (Same.refl _) (by rw [cut_wholeQ z]; exact h), fun _ p hp => q p _ (Same.new hp) upd_same⟩
theorem parts_to {C : Addr} {K : PySem.W.Frag} {H : Hp} {a : Addr} {xs : List Rat} {n : Nat} {i : Int} {Q : VK} (h : PartsAt C H a xs) (e : i = (n : Int)) (q : ∀ (b : Addr) (H' : Hp), Same H H' → PartsAt C H' b (xs.take n) → Q (.ref b) H') : rSlA K (.ref a) none (some i) H Q := by
  obtain ⟨vs, hp, he⟩ := h
  subst e
  refine r_cutP hp fun b H' s hb => q b H' s ⟨_, hb, ?_⟩
  rw [cut_toQ]
  exact (he.same s).take n
theorem parts_from {C : Addr} {K : PySem.W.Frag} {H : Hp} {a : Addr} {xs : List Rat} {n : Nat} {i : Int} {Q : VK} (h : PartsAt C H a xs) (e : i = (n : Int)) (q : ∀ (b : Addr) (H' : Hp), Same H H' → PartsAt C H' b (xs.drop n) → Q (.ref b) H') : rSlA K (.ref a) (some i) none H Q := by
  obtain ⟨vs, hp, he⟩ := h
  subst e
  refine r_cutP hp fun b H' s hb => q b H' s ⟨_, hb, ?_⟩
  rw [cut_fromQ]
  exact (he.same s).drop n
theorem Bd.sum {b : Nat} : ∀ {xs : List Rat}, (∀ x ∈ xs, Bd b x) → Bd ((b + 1) * (xs.length + 1)) (sumQ xs)
  | [], _ => (Bd.int (n := 1) (i := 0) (by decide) (by decide)).mono (by show 1 ≤ (b + 1) * 1; omega)
  | x :: xs, h => by
    have a := h x (List.mem_cons_self ..)
    have c := Bd.sum (xs := xs) (fun y hy => h y (List.mem_cons_of_mem _ hy))
    refine (Bd.add a c).mono ?_
    rw [List.length_cons, Nat.mul_add (b + 1) (xs.length + 1) 1]
    omega
section
variable {P : Program} {w : World} {K : PySem.W.Frag} {mg : Str → Option Value} {base : Heap}
def spTotal (C : Addr) : Nat → Sp
  | 0 => fun _ _ _ _ => False
  | j + 1 => fun vs H Q _ => ∃ (p : Addr) (xs : List Rat) (b : Nat), vs = [.ref p] ∧ PartsAt C H p xs ∧ (0 < xs.length ∧ xs.length ≤ 2 ^ j) ∧ (∀ x ∈ xs, Bd b x) ∧ (b + 1) * (xs.length + 1) ≤ 4000 ∧ ∀ (r : Addr) (H' : Hp), Same H H' → NumAt C H' r (sumQ xs) → Q (.ref r) H'
theorem total_at {C : Addr} {j : Nat} {p : Addr} {xs : List Rat} {b : Nat} {H : Hp} {Q : VK} {E : XK} (hp : PartsAt C H p xs) (h0 : 0 < xs.length) (hj : xs.length * 2 ≤ 2 ^ j) (hb : ∀ x ∈ xs, Bd b x) (bl : (b + 1) * (xs.length + 1) ≤ 4000)
    (q : ∀ (r : Addr) (H' : Hp), Same H H' → NumAt C H' r (sumQ xs) → Q (.ref r) H') : spTotal C j [.ref p] H Q E := by
  cases j with
  | zero => simp at hj; omega
  | succ j => exact ⟨p, xs, b, rfl, hp, ⟨h0, by rw [Nat.pow_succ] at hj; omega⟩, hb, bl, q⟩
theorem ok_total_ofN (T : Txt w K mg) : ∀ j, FnOk P w K mg base CX0 (j + 4) T.f_total_of T.fd_total_of ["numbers"] (spTotal T.C_Number j)
  | 0 => T.F_total_of.ok sc_total_of (fun vs H Q E h => (show False from h).elim) (fun cdv A outer s H vs Q E hr h => (show False from h).elim)
  | j + 1 => by
    have ih := ok_total_ofN T j
    refine T.F_total_of.ok sc_total_of (fun vs H Q E h => ?_) (fun cdv A outer s H vs Q E hr h => ?_)
    · obtain ⟨p, xs, b, rfl, _⟩ := h
      rfl
    · obtain ⟨p, xs, b, rfl, hp, ⟨h0, h1⟩, hb, bl, k⟩ := h
      refine ⟨_, (pss_cons (ps_if (pt_cmpR op_eq (pe_callB call_len_seq (by rfl) T.n_len PySem.boot_len (pa_cons (pv 0) pa_nil)) pe_int (nomark _))
  (pss_one (ps_ret (pe_ix ix_tup (pv 0) pe_int (fun _ _ => rfl))))
  pss_nil)
 (pss_cons (ps_set (i := 1) sc_total_of.nd rfl (Or.inl rfl) (pe_op op_fdiv (pe_callB call_len_seq (by rfl) T.n_len PySem.boot_len (pa_cons (pv 0) pa_nil)) pe_int))
 (pss_one (ps_ret (pe_meth (pe_call ((fun _ => ih) T) (hr.mono (by omega)) (by rfl) T.m_total_of T.F_total_of.kp T.b_total_of .nil pass0 (pa_cons (pe_slice sl_tupA (pv 0) po_none (po_some (pv 1))) pa_nil)) T.c_Number T.me_Number_more (ok_Number_more T) (hr.mono (by omega)) T.b_Number_more .nil pass0 (pa_cons (pe_call ((fun _ => ih) T) (hr.mono (by omega)) (by rfl) T.m_total_of T.F_total_of.kp T.b_total_of .nil pass0 (pa_cons (pe_slice sl_tupA (pv 0) (po_some (pv 1)) po_none) pa_nil)) pa_nil)))))), ?_⟩
      obtain ⟨vs, hv, hn⟩ := id hp
      have hl := hn.len
      walk_at "rdh"
      refine ⟨p, vs, rfl, .inr (SqT.of hv), ?_⟩
      walk_at "rdh"
      refine r_ite (fun e => ?_) (fun e => ?_)
      · have l1 : vs.length = 1 := by have := of_decide_eq_true e; omega
        obtain ⟨q, x, e0, ex, hx⟩ := hn.get (i := 0) (v := vs[0]'(by omega)) (List.getElem?_eq_getElem (by omega))
        walk_at "rdh"
        refine r_ixT hv (atI_nat (j := 0) (List.getElem?_eq_getElem (by omega))) ?_
        rw [e0]
        have es : xs = [x] := by
          match xs, (show xs.length = 1 by omega), ex with
          | [y], _, ex => rw [Option.some.inj ex]
        refine k q H (Same.refl _) ?_
        rw [es]
        have : sumQ [x] = x := by show x + 0 = x; grind
        rw [this]
        exact hx
      · have l2 : 2 ≤ vs.length := by
          have := of_decide_eq_false e
          omega
        walk_at "rdh"
        refine ⟨p, vs, rfl, .inr (SqT.of hv), ?_⟩
        walk_at "rdh"
        have eh : ((vs.length : Int) / 2) = ((vs.length / 2 : Nat) : Int) := by omega
        have lt1 : (xs.take (vs.length / 2)).length = vs.length / 2 := by rw [List.length_take]; omega
        have lt2 : (xs.drop (vs.length / 2)).length = xs.length - vs.length / 2 := by rw [List.length_drop]
        have bt : (b + 1) * ((xs.take (vs.length / 2)).length + 1) ≤ 4000 := Nat.le_trans (Nat.mul_le_mul_left _ (by omega)) bl
        have bd : (b + 1) * ((xs.drop (vs.length / 2)).length + 1) ≤ 4000 := Nat.le_trans (Nat.mul_le_mul_left _ (by omega)) bl
        refine parts_to hp eh fun b1 H1 s1 u1 => ?_
        walk_at "rdh"
        have jj : 2 ≤ 2 ^ j := by
          cases j with
          | zero => omega
          | succ j => rw [Nat.pow_succ]; have := Nat.pow_pos (a := 2) (n := j) (by decide); omega
        have half2 : 2 ^ j % 2 = 0 := by
          cases j with
          | zero => omega
          | succ j => rw [Nat.pow_succ]; omega
        refine total_at u1 (by omega) (by omega) (fun x hx => hb x (List.mem_of_mem_take hx)) bt fun r1 H2 s2 n2 => ?_
        obtain ⟨d2, e2⟩ := n2
        walk_at "rdh"
        refine r_meth1 e2 (no_more _) ?_
        walk_at "rdh"
        refine parts_from (hp.same (s1.trans s2)) eh fun b2 H3 s3 u3 => ?_
        walk_at "rdh"
        refine total_at u3 (by omega) (by omega) (fun x hx => hb x (List.mem_of_mem_drop hx)) bd fun r2 H4 s4 n4 => ?_
        walk_at "rdh"
        refine ⟨r1, r2, _, _, rfl, ⟨_, s4 _ _ (s3 _ _ e2)⟩, n4, (Bd.sum fun x hx => hb x (List.mem_of_mem_take hx)).mono bt, (Bd.sum fun x hx => hb x (List.mem_of_mem_drop hx)).mono bd, trivial, fun r H5 s5 _ n5 => ?_⟩
        refine k r H5 (((s1.trans s2).trans (s3.trans s4)).trans s5) ?_
        have es : sumQ xs = sumQ (xs.take (vs.length / 2)) + sumQ (xs.drop (vs.length / 2)) := by rw [← sumQ_append, List.take_append_drop]
        rw [es]
        exact n5
end
end My

namespace My
open PySem L2 TL
section
variable {P : Program} {w : World} {K : PySem.W.Frag} {mg : Str → Option Value} {base : Heap}
section
variable {σ : L2.St} {H : Hp} {Q : VK} {x : V} {to te : TE}
theorem r_m0 {r : V → List V → Hp → VK → Prop} (q : to σ H fun x H1 => (∃ a, x = .str a) ∧ r x [] H1 Q) : tM0 r to σ H Q := q
theorem r_tj {t : TE} {ts : List TE} {acc : Str} {QJ : Str → Hp → Prop} (q : t σ H fun x H1 => ∃ y : Str, x = .str y ∧ (acc ++ y).length ≤ sizeLine ∧ tJs ts (acc ++ y) σ H1 QJ) : tJs (t :: ts) acc σ H QJ := q
theorem r_tj0 {acc : Str} {QJ : Str → Hp → Prop} (q : QJ acc H) : tJs [] acc σ H QJ := q
theorem r_fmt (q : te σ H fun x H1 => (∃ y : Str, x = .str y ∧ y.length ≤ sizeLine ∧ Q (.str y) H1) ∨ ∃ i : Int, x = .int i ∧ i.natAbs.log2 < 1920 ∧ Q (.str (toString i)) H1) : tFmt te σ H Q := q
theorem r_str {z : Str} {P : Prop} (q : P) : (∃ a, V.str z = .str a) ∧ P := ⟨⟨z, rfl⟩, q⟩
end
theorem bits1920 {i : Int} (h : i.natAbs < 2 ^ 900) : i.natAbs.log2 < 1920 := Nat.lt_of_lt_of_le (PySem.Flt.log2_lt_of (by decide) h) (by decide)
theorem TI_short {i : Int} (h : i.natAbs < 2 ^ 900) : (TI i).length ≤ 2000 := Nat.le_trans (PyProof.Rows.int_text_len_1921 (bits1920 h)) (by decide)
def spStr (C : Addr) : Sp := fun vs H Q _ => ∃ (p : Addr) (x : Rat), vs = [.ref p] ∧ NumAt C H p x ∧ Bd 900 x ∧ Q (.str (NText x)) H
theorem ok_Number_str (T : Txt w K mg) : FnOk P w K mg base CX0 1 T.f_Number_str T.fd_Number_str ["self"] (spStr T.C_Number) := by
  refine T.F_Number_str.ok sc_Number_str (fun vs H Q E h => ?_) (fun cdv A outer s H vs Q E hr h => ?_)
  · obtain ⟨p, x, rfl, _⟩ := h
    rfl
  · obtain ⟨p, x, rfl, ⟨dx, hp⟩, bx, k⟩ := h
    have cN := T.c_Number
    have nT := T.n_Number_top
    have nB := T.n_Number_bottom
    refine ⟨_, (pss_cons (ps_if (pt_cmpR op_eq (pe_fld (pv 0) rfl) pe_int (nomark _))
  (pss_one (ps_ret (pe_callTy call_str_int (by rfl) T.n_str (by decide +kernel) (pa_cons (pe_fld (pv 0) rfl) pa_nil))))
  pss_nil)
 (pss_one (ps_ret (pe_joined (.cons (pe_fmt (pe_fld (pv 0) rfl)) (.cons pe_str (.cons (pe_fmt (pe_fld (pv 0) rfl)) .nil))))))), ?_⟩
    have bn := bx.1
    have bd := bd_den bx
    walk_at "rdf"
    refine r_ite (fun e => ?_) (fun e => ?_)
    · have e' : x.den = 1 := by have := of_decide_eq_true e; omega
      walk_at "rdf"
      refine ⟨_, rfl, bits1920 bn, ?_⟩
      have : NText x = TI x.num := if_pos e'
      rw [this] at k
      exact k
    · have e' : x.den ≠ 1 := by have := of_decide_eq_false e; omega
      have nt : NText x = TI x.num ++ "/" ++ TI (x.den : Int) := if_neg e'
      have l1 := TI_short bn
      have l2 := TI_short bd
      have ll : (TI x.num ++ "/" ++ TI (x.den : Int)).length ≤ 5000 := by
        rw [← nt, NText_len, if_neg e', ← nat_signL, ← TI_len, ← TI_len]
        omega
      walk_at "rdf"
      have sl : sizeLine = 16777216 := rfl
      have e1 : Str.empty ++ Str.ofString (toString x.num) = TI x.num := ext_tl (by rw [tl_append]; rfl)
      have l3 : (TI x.num ++ ("/" : Str)).length ≤ 3000 := by
        rw [len_tl, tl_append, List.length_append, ← len_tl]
        have : (tl ("/" : Str)).length = 1 := rfl
        omega
      refine r_tj (r_fmt ?_)
      walk_at "rdf"
      refine .inr ⟨_, rfl, bits1920 bn, ?_⟩
      refine ⟨_, rfl, by rw [e1]; omega, ?_⟩
      rw [e1]
      refine r_tj ?_
      walk_at "rdf"
      refine ⟨_, rfl, by omega, ?_⟩
      refine r_tj (r_fmt ?_)
      walk_at "rdf"
      refine .inr ⟨_, rfl, bits1920 bd, ?_⟩
      refine ⟨_, rfl, by show (TI x.num ++ "/" ++ TI (x.den : Int)).length ≤ sizeLine; omega, ?_⟩
      refine r_tj0 ?_
      rw [nt] at k
      exact k
theorem rd_strOwn {C : Addr} {H : Hp} {p : Addr} {x : Rat} {Q : VK} (hp : NumAt C H p x) (bx : Bd 900 x) (q : Q (.str (NText x)) H) : rStrOwn C (spStr C) [.ref p] H Q := by
  obtain ⟨dx, e⟩ := hp
  exact ⟨p, dx, _, rfl, e, p, x, rfl, ⟨dx, e⟩, bx, _, rfl, q⟩
end
end My

namespace My
open PySem L2 TL
section
variable {P : Program} {w : World} {K : PySem.W.Frag} {mg : Str → Option Value} {base : Heap}
/-- what repr tells of a Number -/
def RText (x : Rat) : Str := Str.empty ++ "Number(" ++ TI x.num ++ ", " ++ TI (x.den : Int) ++ ")"
theorem RText_len {x : Rat} (bx : Bd 900 x) : (RText x).length ≤ 10000 := by
  have l1 := TI_short bx.1
  have l2 := TI_short (bd_den bx)
  unfold RText
  have e1 : ("Number(" : Str).length = 7 := rfl
  have e2 : (", " : Str).length = 2 := rfl
  have e3 : (")" : Str).length = 1 := rfl
  have e0 : Str.empty.length = 0 := rfl
  simp only [Str.length_append, e0, e1, e2, e3]
  omega
def spRepr (C : Addr) : Sp := fun vs H Q _ => ∃ (p : Addr) (x : Rat), vs = [.ref p] ∧ NumAt C H p x ∧ Bd 900 x ∧ Q (.str (RText x)) H
theorem ok_Number_repr (T : Txt w K mg) : FnOk P w K mg base CX0 1 T.f_Number_repr T.fd_Number_repr ["self"] (spRepr T.C_Number) := by
  refine T.F_Number_repr.ok sc_Number_repr (fun vs H Q E h => ?_) (fun cdv A outer s H vs Q E hr h => ?_)
  · obtain ⟨p, x, rfl, _⟩ := h
    rfl
  · obtain ⟨p, x, rfl, ⟨dx, hp⟩, bx, k⟩ := h
    have cN := T.c_Number
    have nT := T.n_Number_top
    have nB := T.n_Number_bottom
    refine ⟨_, (pss_one (ps_ret (pe_joined (.cons pe_str (.cons (pe_fmt (pe_fld (pv 0) rfl)) (.cons pe_str (.cons (pe_fmt (pe_fld (pv 0) rfl)) (.cons pe_str .nil)))))))), ?_⟩
    have l1 := TI_short bx.1
    have l2 := TI_short (bd_den bx)
    have sl : sizeLine = 16777216 := rfl
    have e1 : ("Number(" : Str).length = 7 := rfl
    have e2 : (", " : Str).length = 2 := rfl
    have e3 : (")" : Str).length = 1 := rfl
    have e0 : Str.empty.length = 0 := rfl
    walk_at "rdf"
    refine r_tj ?_
    walk_at "rdf"
    refine ⟨_, rfl, by simp only [Str.length_append, e0, e1]; omega, ?_⟩
    refine r_tj (r_fmt ?_)
    walk_at "rdf"
    refine .inr ⟨_, rfl, bits1920 bx.1, ?_⟩
    refine ⟨TI x.num, rfl, by simp only [Str.length_append, e0, e1]; omega, ?_⟩
    refine r_tj ?_
    walk_at "rdf"
    refine ⟨_, rfl, by simp only [Str.length_append, e0, e1, e2]; omega, ?_⟩
    refine r_tj (r_fmt ?_)
    walk_at "rdf"
    refine .inr ⟨_, rfl, bits1920 (bd_den bx), ?_⟩
    refine ⟨TI (x.den : Int), rfl, by simp only [Str.length_append, e0, e1, e2]; omega, ?_⟩
    refine r_tj ?_
    walk_at "rdf"
    refine ⟨_, rfl, by simp only [Str.length_append, e0, e1, e2, e3]; omega, ?_⟩
    refine r_tj0 ?_
    exact k
end
end My

namespace My
open PySem PySem.Spec PyProof.Rows L2
/-! ### math.lcm of two great whole numbers -/
section
variable {X : Cx}
def rLcm : List V → Hp → VK → Prop := fun xs H Q => ∃ a b : Int, xs = [.int a, .int b] ∧ a.natAbs < 2 ^ 6000 ∧ b.natAbs < 2 ^ 6000 ∧ Q (.int ((a.natAbs.lcm b.natAbs : Nat) : Int)) H
theorem log_small {n : Nat} (h : n < 2 ^ 6000) : n.log2 < 6000 := PySem.Flt.log2_lt_of (by decide) h
theorem cr_lcm : CallR X (.builtin "math.lcm") rLcm := by
  rintro pins s σ H vs us Q I r ⟨a, b, rfl, ha, hb, q⟩
  obtain ⟨t, u, rfl⟩ := Vals.int2 r
  have e1 : Nat.lcm 1 a.natAbs = a.natAbs := Nat.lcm_one_left _
  have one : (1 : Nat) < 2 ^ 6000 := Nat.lt_of_lt_of_le (by decide : 1 < 2 ^ 1) (Nat.pow_le_pow_right (by decide) (by decide))
  have m1 : (max 1 a.natAbs).log2 < 6000 := log_small (Nat.max_lt.mpr ⟨one, ha⟩)
  have m2 : (max a.natAbs b.natAbs).log2 < 6000 := log_small (Nat.max_lt.mpr ⟨ha, hb⟩)
  have le : a.natAbs.lcm b.natAbs < 2 ^ 12001 := by
    have h1 : a.natAbs.lcm b.natAbs ≤ a.natAbs * b.natAbs := by
      unfold Nat.lcm
      exact Nat.div_le_self _ _
    have h2 : a.natAbs * b.natAbs ≤ 2 ^ 6000 * 2 ^ 6000 := Nat.mul_le_mul (Nat.le_of_lt ha) (Nat.le_of_lt hb)
    rw [← Nat.pow_add] at h2
    exact Nat.lt_of_le_of_lt (Nat.le_trans h1 h2) (Nat.pow_lt_pow_right (by decide) (by decide))
  have lg : (a.natAbs.lcm b.natAbs).log2 < 12001 := PySem.Flt.log2_lt_of (by decide) le
  have hsz : ((((Nat.lcm 1 a.natAbs).lcm b.natAbs : Nat) : Int)).natAbs.log2 < bitsLine := by
    rw [e1, Int.natAbs_natCast]
    exact Nat.lt_of_lt_of_le lg (by decide)
  refine call_function_meets PySem.W.MGF.kind_lcm PySem.W.MGF.plain_lcm PySem.W.MGF.entry_lcm (PySem.W.MGF.args_lcm _ _) (PySem.W.mg_run_lcm a t b u (by omega) (by omega) hsz).meets ?_
  rw [e1]
  exact ⟨.int _, H, I.tok _, ⟨_, rfl⟩, q⟩
end
end My

namespace My
open PySem L2
/-! ### comprehensions over enumerate(list) -/
/-- e.f within a comprehension: K by its name -/
theorem pe_fldK {X : Cx} {e : Expr} {f : Str} {pos : Pos} {ta : TE} {K0 : PySem.W.Frag} (hK : X.K = K0) (he : PE X e ta) (hb : attributeBase e f X.env (eval e X.env) = eval e X.env) : PE X (.Attribute e f pos) (tFld K0 ta f) := by
  subst hK
  exact pe_fld he hb
section
variable {K : PySem.W.Frag}
theorem r_lcE {σ : L2.St} {H : Hp} {Q : VK} {te : TE} {ta : TA} {g : TG} {tt : TT} {vs : List Nat} (q : ta σ H fun ws H1 => ∃ a xs, ws = [.ref a] ∧ SqL K H1 a xs ∧ ∀ D, H1 D = none → ∃ W : Nat → Nat → Hp → Prop, (∃ m, W 0 m (upd H1 D (.lst []))) ∧ ∀ i m H, W i m H →
    ((Ite K a).stop i H ∧ Q (.ref D) H) ∨ ((Ite K a).go i H ∧ ∃ Nx : Hp → Prop, (∀ H', Nx H' → ∃ m', m' < m ∧ W (i + 1) m' H') ∧ ∀ x H', (Ite K a).yld i H x H' → g x (wipe σ vs) H' fun σ2 H2 => wipe σ2 vs = wipe σ vs ∧ tt σ2 H2 fun b H3 =>
      if b = true then te σ2 H3 fun y H4 => ∃ acc, H4 D = some (.lst acc) ∧ acc.length < sizeLine ∧ Nx (upd H4 D (.lst (acc ++ [y]))) else Nx H3)) : tLc (iEnum K ta) g tt te vs σ H Q := q
theorem lc_enum {a : Addr} {xs : List V} {g : TG} {tt : TT} {te : TE} {vs : List Nat} {σ : L2.St} {H1 : Hp} {D : Addr} {Qd : Hp → Prop} (Pv : Nat → Hp → Prop) (h0 : Pv 0 (upd H1 D (.lst []))) (hl : ∀ i H, i ≤ xs.length → Pv i H → SqL K H a xs)
    (hs : ∀ (i : Nat) (x : V) (T : Addr) (H : Hp), xs[i]? = some x → Pv i H → H T = none → g (.ref T) (wipe σ vs) (upd H T (.tup [.int (i : Int), x])) fun σ2 H2 => wipe σ2 vs = wipe σ vs ∧ tt σ2 H2 fun b H3 =>
      if b = true then te σ2 H3 fun y H4 => ∃ acc, H4 D = some (.lst acc) ∧ acc.length < sizeLine ∧ Pv (i + 1) (upd H4 D (.lst (acc ++ [y]))) else Pv (i + 1) H3) (hd : ∀ H, Pv xs.length H → Qd H) :
    ∃ W : Nat → Nat → Hp → Prop, (∃ m, W 0 m (upd H1 D (.lst []))) ∧ ∀ i m H, W i m H →
      ((Ite K a).stop i H ∧ Qd H) ∨ ((Ite K a).go i H ∧ ∃ Nx : Hp → Prop, (∀ H', Nx H' → ∃ m', m' < m ∧ W (i + 1) m' H') ∧ ∀ x H', (Ite K a).yld i H x H' → g x (wipe σ vs) H' fun σ2 H2 => wipe σ2 vs = wipe σ vs ∧ tt σ2 H2 fun b H3 =>
        if b = true then te σ2 H3 fun y H4 => ∃ acc, H4 D = some (.lst acc) ∧ acc.length < sizeLine ∧ Nx (upd H4 D (.lst (acc ++ [y]))) else Nx H3) := by
  refine ⟨fun i m H => m = xs.length - i ∧ i ≤ xs.length ∧ Pv i H, ⟨xs.length, by simp, Nat.zero_le _, h0⟩, ?_⟩
  rintro i m H ⟨rfl, hi, p⟩
  have q := hl i H hi p
  by_cases hlt : i < xs.length
  · have hx : xs[i]? = some xs[i] := List.getElem?_eq_getElem hlt
    refine .inr ⟨⟨xs, xs[i], q, hx⟩, Pv (i + 1), fun H' p' => ⟨xs.length - (i + 1), by omega, rfl, hlt, p'⟩, fun v H' y => ?_⟩
    obtain ⟨T, x', rfl, hT, rfl, f1⟩ := y
    exact hs i x' T H (f1 xs q) p hT
  · have e : i = xs.length := by omega
    subst e
    exact .inl ⟨⟨xs, q, Nat.le_refl _⟩, hd H p⟩
end
end My

namespace My
open PySem L2
/-! ### the furthest ones first -/
theorem r_tyes {σ : L2.St} {H : Hp} {A B : Hp → Prop} (q : A H) : tYes σ H (fun b H3 => if b = true then A H3 else B H3) := (iteT (A := A H) (B := B H) q : if true = true then A H else B H)
theorem num_over_den (u : Rat) : (u.num : Rat) / (u.den : Rat) = u := by
  have := Rat.num_divInt_den u
  rw [Rat.divInt_eq_div] at this
  exact this
def rkI (B : Nat) (u : Rat) : Int := -u.num * ((B : Int) / (u.den : Int))
theorem rkI_eq {B : Nat} {u : Rat} (h : u.den ∣ B) : (rkI B u : Rat) = -(u * (B : Rat)) := by
  obtain ⟨c, rfl⟩ := h
  unfold rkI
  have d0 : (u.den : Int) ≠ 0 := by have := u.den_pos; omega
  have e : ((u.den * c : Nat) : Int) / (u.den : Int) = (c : Int) := by
    rw [Int.natCast_mul]
    exact Int.mul_ediv_cancel_left _ d0
  rw [e, Rat.intCast_mul, Rat.intCast_neg, Rat.natCast_mul]
  have hu : u * (u.den : Rat) = (u.num : Rat) := by
    have h1 := num_over_den u
    have h2 : (u.den : Rat) ≠ 0 := by
      have := u.den_pos
      intro z
      have z' : ((u.den : Int) : Rat) = 0 := z
      have := Rat.intCast_eq_zero_iff.mp z'
      omega
    generalize (u.den : Rat) = dq at *
    generalize (u.num : Rat) = nq at *
    rw [← h1]
    grind
  have : (((c : Nat) : Int) : Rat) = (c : Rat) := rfl
  rw [this]
  generalize (c : Rat) = cq
  grind
theorem rk_bef {B : Nat} {F : Nat → Rat} {i j : Nat} (B0 : 0 < B) (hi : (F i).den ∣ B) (hj : (F j).den ∣ B) (h : bef F i j) : SrtO.lexB (rkI B (F i), (i : Int)) (rkI B (F j), (j : Int)) = true := by
  have b0 : (0 : Rat) < (B : Rat) := by
    have : (0 : Rat) < ((B : Int) : Rat) := Rat.intCast_pos.mpr (by omega)
    exact this
  have ei := rkI_eq hi
  have ej := rkI_eq hj
  refine SrtO.lexB_iff.mpr ?_
  unfold bef at h
  rcases h with h | ⟨h, l⟩
  · left
    show rkI B (F i) < rkI B (F j)
    refine Rat.intCast_lt_intCast.mp ?_
    rw [ei, ej]
    have := Rat.mul_lt_mul_of_pos_right h b0
    grind
  · right
    refine ⟨?_, by show (i : Int) < j; omega⟩
    show rkI B (F i) = rkI B (F j)
    rw [h]
/-- what a pair of whole numbers at the heap is -/
def keyOf (H : Hp) (v : V) : Int × Int := match v with
  | .ref q => (match H q with
    | some (.tup [.int a, .int b]) => (a, b)
    | _ => (0, 0))
  | _ => (0, 0)
theorem keyOf_eq {H : Hp} {q : Addr} {a b : Int} (h : H q = some (.tup [.int a, .int b])) : keyOf H (.ref q) = (a, b) := by
  unfold keyOf
  simp only [h]
section
variable {P : Program} {w : World} {K : PySem.W.Frag} {mg : Str → Option Value} {base : Heap}
def spFurth (C : Addr) : Sp := fun vs H Q _ => ∃ (l : Addr) (rs : List V) (us : List Rat) (b : Nat), vs = [.ref l] ∧ H l = some (.lst rs) ∧ NumsV C H rs us ∧ us.length ≤ 64 ∧ (∀ u ∈ us, Bd b u) ∧ b * us.length + 1 ≤ 6000 ∧
  ∀ (p : Addr) (L : List Nat) (H' : Hp), Same H H' → H' p = some (.lst (L.map fun i : Nat => V.int (i : Int))) → Ord (fun i => us.getD i 0) us.length L → Q (.ref p) H'
theorem ok_furthest_first (T : Txt w K mg) : FnOk P w K mg base CX0 1 T.f_furthest_first T.fd_furthest_first ["beyond"] (spFurth T.C_Number) := by
  refine T.F_furthest_first.ok sc_furthest_first (fun vs H Q E h => ?_) (fun cdv A outer s H vs Q E hr h => ?_)
  · obtain ⟨l, rs, us, b, rfl, _⟩ := h
    rfl
  · obtain ⟨l, rs, us, b, rfl, hl, hn, h64, hb, bb, k⟩ := h
    refine ⟨_, (pss_cons (ps_set (i := 1) sc_furthest_first.nd rfl (Or.inr rfl) pe_int)
 (pss_cons (ps_for PassesOwn.never rfl (pi_list (pv 0)) (pg_name (i := 2) sc_furthest_first.nd rfl (Or.inl rfl))
  (pss_one (ps_set (i := 1) sc_furthest_first.nd rfl (Or.inr rfl) (pe_callBfun cr_lcm (by rfl) T.m_lcm (pa_cons (pv 1) (pa_cons (pe_fld (pv 2) rfl) pa_nil))))))
 (pss_cons (ps_setLc (i := 3) (own := [("at", 4), ("part", 2)]) (g := gTup K 2 (gCons (gName 4) (gCons (gName 2) gNil))) (tt := tYes) rfl sc_furthest_first.nd rfl rfl (sw_true rfl rfl rfl (by decide +kernel)) (pi_enum (by rfl) T.n_enumerate (pa_cons (pv 0) pa_nil)) (blkOk_by (own := [("at", 4), ("part", 2)]) (N := ["beyond", "bottom", "part", "ranks", "at", "_"]) (sc := defScope s_furthest_first) (by decide +kernel)) (fun _ _ _ _ _ => pg_tup rfl (pgs_cons (pg_name (i := 4) sc_furthest_first.nd rfl (Or.inl rfl)) (pgs_cons (pg_name (i := 2) sc_furthest_first.nd rfl (Or.inl rfl)) pgs_nil))) (fun _ _ _ _ _ => pts_nil) (fun _ _ _ _ _ => (pe_tup (pa_cons (pe_op op_mulW (pe_un un_neg (pe_fldK (K0 := K) rfl (pv 2) (by rfl))) (pe_op op_fdivW (pv 1) (pe_fldK (K0 := K) rfl (pv 2) (by rfl)))) (pa_cons (pv 4) pa_nil)))))
 (pss_one (ps_ret (pe_lc (own := [("_", 5), ("at", 4)]) (g := gTup K 2 (gCons (gName 5) (gCons (gName 4) gNil))) (tt := tYes) rfl sc_furthest_first.nd (pi_list (pe_callB cr_sortedPO (by rfl) T.n_sorted (by decide +kernel) (pa_cons (pv 3) pa_nil))) (blkOk_by (own := [("_", 5), ("at", 4)]) (N := ["beyond", "bottom", "part", "ranks", "at", "_"]) (sc := defScope s_furthest_first) (by decide +kernel)) (fun _ _ _ _ _ => pg_tup rfl (pgs_cons (pg_name (i := 5) sc_furthest_first.nd rfl (Or.inl rfl)) (pgs_cons (pg_name (i := 4) sc_furthest_first.nd rfl (Or.inl rfl)) pgs_nil))) (fun _ _ _ _ _ => pts_nil) (fun _ _ _ _ _ => (pv 4)))))))), ?_⟩
    have cN := T.c_Number
    have nT := T.n_Number_top
    have nB := T.n_Number_bottom
    have len := hn.len
    walk_at "rdh"
    refine r_forL ?_
    walk_at "rdh"
    refine ⟨l, rfl, ⟨_, SqL.of hl⟩, for_list (K := K) (a := l) (xs := rs) (fun j σ H' => ∃ (B : Nat) (v2 : Option V), σ = [some (.ref l), some (.int (B : Int)), v2, none, none, none] ∧ H' = H ∧ 0 < B ∧ B < 2 ^ (b * j + 1) ∧ ∀ i u, i < j → us[i]? = some u → u.den ∣ B)
      ⟨1, none, rfl, rfl, by decide, by rw [Nat.mul_zero]; decide, fun i u h => absurd h (by omega)⟩ (fun j σ H' _ ⟨_, _, _, e, _⟩ => by rw [e]; exact SqL.of hl) ?_ ?_⟩
    · rintro j z σ H1 hz ⟨B, v2, rfl, rfl, B0, Bb, hB⟩
      obtain ⟨q, u, rfl, hu, dq, hq⟩ := hn.get hz
      have jl : j < us.length := by
        have := (List.getElem?_eq_some_iff.mp hz).1
        omega
      have b6 : b ≤ 5999 := by have := Nat.mul_le_mul_left b (show 1 ≤ us.length by omega); omega
      have bu := hb u (List.mem_of_getElem? hu)
      have Bj : B < 2 ^ 6000 := Nat.lt_of_lt_of_le Bb (Nat.pow_le_pow_right (by decide) (by have := Nat.mul_le_mul_left b (Nat.le_of_lt jl); omega))
      have db : u.den < 2 ^ 6000 := Nat.lt_of_lt_of_le bu.2 (Nat.pow_le_pow_right (by decide) (by omega))
      walk_at "rdf"
      refine ⟨B, u.den, rfl, Bj, db, ?_⟩
      walk_at "rdh"
      refine ⟨B.lcm u.den, _, rfl, rfl, Nat.lcm_pos B0 u.den_pos, ?_, fun i v hi hv => ?_⟩
      · have h1 : B.lcm u.den ≤ B * u.den := by unfold Nat.lcm; exact Nat.div_le_self _ _
        have h2 : B * u.den < 2 ^ (b * j + 1) * 2 ^ b := Nat.mul_lt_mul'' Bb bu.2
        rw [← Nat.pow_add] at h2
        refine Nat.lt_of_le_of_lt h1 (Nat.lt_of_lt_of_le h2 (Nat.pow_le_pow_right (by decide) ?_))
        rw [Nat.mul_add]
        omega
      · by_cases e : i = j
        · subst e
          rw [hu] at hv
          obtain rfl := Option.some.inj hv
          exact Nat.dvd_lcm_right _ _
        · exact Nat.dvd_trans (hB i v (by omega) hv) (Nat.dvd_lcm_left _ _)
    · rintro σ H1 ⟨B, v2, rfl, rfl, B0, Bb, hB⟩
      have Bj : B < 2 ^ 6000 := Nat.lt_of_lt_of_le Bb (Nat.pow_le_pow_right (by decide) (by rw [len]; omega))
      walk_at "rdh"
      refine r_lcE ?_
      walk_at "rdh"
      refine ⟨l, rs, rfl, SqL.of hl, fun D hD => ?_⟩
      refine lc_enum (K := K) (a := l) (xs := rs) (fun j H' => Same H1 H' ∧ ∃ ts : List V, H' D = some (.lst ts) ∧ ts.length = j ∧ j ≤ rs.length ∧ ∀ i t, ts[i]? = some t → ∃ q, t = .ref q ∧ H' q = some (.tup [.int (rkI B (us.getD i 0)), .int (i : Int)]))
        ⟨Same.new hD, [], upd_same, rfl, Nat.zero_le _, fun i t h => by simp at h⟩ (fun j H' _ ⟨s, _⟩ => SqL.of (s _ _ hl)) ?_ ?_
      · rintro j z t H2 hz ⟨s2, ts, hts, lts, jl, hk⟩ ht
        obtain ⟨q, u, rfl, hu, dq, hq⟩ := hn.get hz
        have st := Same.new (o := .tup [.int (j : Int), .ref q]) ht
        have hq2 := st _ _ (s2 _ _ hq)
        have bu := hb u (List.mem_of_getElem? hu)
        have b6 : b ≤ 5999 := by have := Nat.mul_le_mul_left b (show 1 ≤ us.length by have := (List.getElem?_eq_some_iff.mp hu).1; omega); omega
        refine r_gTup upd_same rfl ?_
        walk_at "rdh"
        refine ⟨rfl, ?_⟩
        refine r_tyes ?_
        walk_at "rdf"
        have d0 := u.den_pos
        have dN : ((u.den : Nat) : Int).natAbs < 2 ^ 9000 := Nat.lt_of_lt_of_le (by rw [Int.natAbs_natCast]; exact bu.2) (Nat.pow_le_pow_right (by decide) (by omega))
        have nN : (-u.num).natAbs < 2 ^ 6000 := Nat.lt_of_lt_of_le (by rw [Int.natAbs_neg]; exact bu.1) (Nat.pow_le_pow_right (by decide) (by omega))
        have qN : ((B : Int) / (u.den : Int)).natAbs < 2 ^ 6000 := Nat.lt_of_le_of_lt (Int.natAbs_ediv_le_natAbs _ _) (by rw [Int.natAbs_natCast]; exact Bj)
        refine r_I (wide_div (by omega) dN (by decide) (Nat.le_refl _)) ?_
        walk_at "rdf"
        refine r_I (wide_mul (a := 6000) (b := 6000) nN qN (by decide) (by decide) (by decide)) ?_
        walk_at "rdf"
        refine r_new (by show 2 ≤ 1000; decide) fun p hp => ?_
        have sp := Same.new (o := .tup [.int (-u.num * ((B : Int) / (u.den : Int))), .int (j : Int)]) hp
        have jl' : j < rs.length := (List.getElem?_eq_some_iff.mp hz).1
        refine ⟨ts, sp _ _ (st _ _ hts), by rw [lts]; exact Nat.lt_of_lt_of_le (show j < 64 by omega) (by decide), ?_, ts ++ [.ref p], upd_same, by rw [List.length_append, lts]; rfl, by omega, fun i x hx => ?_⟩
        · intro c o hc
          rw [upd_ne (ne_of_none hc hD)]
          exact sp _ _ (st _ _ (s2 _ _ hc))
        · by_cases il : i < ts.length
          · rw [List.getElem?_append_left il] at hx
            obtain ⟨q', e, hq'⟩ := hk i x hx
            refine ⟨q', e, ?_⟩
            rw [upd_ne (ne_of hq' hts (fun z => by cases z))]
            exact sp _ _ (st _ _ hq')
          · have ei : i = ts.length := by
              have := (List.getElem?_eq_some_iff.mp hx).1
              rw [List.length_append, List.length_singleton] at this
              omega
            subst ei
            rw [List.getElem?_append_right (Nat.le_refl _), Nat.sub_self] at hx
            refine ⟨p, (Option.some.inj hx).symm, ?_⟩
            have hp2 : upd (upd H2 t (.tup [.int (j : Int), .ref q])) p (.tup [.int (-u.num * ((B : Int) / (u.den : Int))), .int (j : Int)]) p = some (.tup [.int (-u.num * ((B : Int) / (u.den : Int))), .int (j : Int)]) := upd_same
            rw [upd_ne (ne_of hp2 (sp _ _ (st _ _ hts)) (fun z => by cases z)), upd_same, lts]
            have : us.getD j 0 = u := by rw [List.getD_eq_getElem?_getD, hu]; rfl
            rw [this]
            rfl
      · rintro H2 ⟨s2, ts, hts, lts, _, hk⟩
        have key : ∀ x ∈ ts, ∃ i q, i < rs.length ∧ x = .ref q ∧ H2 q = some (.tup [.int (rkI B (us.getD i 0)), .int (i : Int)]) := fun x hx => by
          obtain ⟨i, hi⟩ := List.mem_iff_getElem?.mp hx
          obtain ⟨q, e, hq⟩ := hk i x hi
          exact ⟨i, q, by have := (List.getElem?_eq_some_iff.mp hi).1; omega, e, hq⟩
        walk_at "rdh"
        refine r_lcL ?_
        walk_at "rdh"
        refine ⟨D, ts, keyOf H2, rfl, SqL.of hts, fun x hx => ?_, fun ys p hs hst hp => ?_⟩
        · obtain ⟨i, q, _, rfl, hq⟩ := key x hx
          exact ⟨q, rfl, by rw [keyOf_eq hq]; exact hq⟩
        · have sp := Same.new (o := .lst ys) hp
          have keyY : ∀ x ∈ ys, ∃ i q, i < rs.length ∧ x = .ref q ∧ H2 q = some (.tup [.int (rkI B (us.getD i 0)), .int (i : Int)]) := fun x hx => key x (hst.perm.mem_iff.mp hx)
          have ylen : ys.length = rs.length := by rw [hst.perm.length_eq, lts]
          refine ⟨p, rfl, ⟨_, SqL.of upd_same⟩, fun D2 hD2 => ?_⟩
          refine lc_list (K := K) (a := p) (xs := ys) (fun j H' => Same (upd H2 p (.lst ys)) H' ∧ H' D2 = some (.lst ((ys.take j).map fun v => V.int (keyOf H2 v).2)) ∧ j ≤ ys.length) ⟨Same.new hD2, upd_same, Nat.zero_le _⟩ (fun j H' _ ⟨s, _⟩ => SqL.of (s _ _ upd_same)) ?_ ?_
          · rintro j z H3 hz ⟨s3, hD3, jl⟩
            obtain ⟨i, q, il, rfl, hq⟩ := keyY z (List.mem_of_getElem? hz)
            refine r_gTup (s3 _ _ (sp _ _ hq)) rfl ?_
            walk_at "rdh"
            refine ⟨rfl, ?_⟩
            refine r_tyes ?_
            walk_at "rdh"
            have jl' : j < ys.length := (List.getElem?_eq_some_iff.mp hz).1
            refine ⟨_, hD3, by rw [List.length_map, List.length_take]; exact Nat.lt_of_lt_of_le (show min j ys.length < 65 by omega) (by decide), ?_, ?_, by omega⟩
            · intro c o hc
              rw [upd_ne (ne_of_none hc hD2)]
              exact s3 _ _ hc
            · rw [upd_same, List.take_add_one, hz, List.map_append]
              show _ = some (HO.lst (_ ++ [V.int (keyOf H2 (.ref q)).2]))
              rw [keyOf_eq hq]
          · rintro H3 ⟨s3, hD3, _⟩
            rw [List.take_of_length_le (Nat.le_refl _)] at hD3
            have nat : ∀ x ∈ ys, (((keyOf H2 x).2.toNat : Nat) : Int) = (keyOf H2 x).2 := fun x hx => by
              obtain ⟨i, q, il, rfl, hq⟩ := keyY x hx
              rw [keyOf_eq hq]
              show (((i : Int).toNat : Nat) : Int) = (i : Int)
              rw [Int.toNat_natCast]
            refine k D2 (ys.map fun v => (keyOf H2 v).2.toNat) H3 ((s2.trans sp).trans s3) ?_ ⟨?_, ?_⟩
            · rw [hD3, List.map_map]
              congr 2
              refine List.map_congr_left fun x hx => ?_
              show V.int (keyOf H2 x).2 = V.int (((keyOf H2 x).2.toNat : Nat) : Int)
              rw [nat x hx]
            · refine (hst.perm.map _).trans (List.Perm.of_eq ?_)
              refine List.ext_getElem? fun i => ?_
              rw [List.getElem?_map]
              by_cases il : i < ts.length
              · obtain ⟨q, e, hq⟩ := hk i ts[i] (List.getElem?_eq_getElem il)
                rw [List.getElem?_eq_getElem il, List.getElem?_range (by omega)]
                show some (keyOf H2 ts[i]).2.toNat = some i
                rw [e, keyOf_eq hq]
                rfl
              · rw [List.getElem?_eq_none (by omega), List.getElem?_eq_none (by rw [List.length_range]; omega)]
                rfl
            · refine List.pairwise_map.mpr (List.Pairwise.imp_of_mem ?_ hs)
              intro x y hx hy hxy hb'
              obtain ⟨i, q, il, rfl, hq⟩ := keyY x hx
              obtain ⟨i', q', il', rfl, hq'⟩ := keyY y hy
              have h1 : SrtO.lexB (keyOf H2 (.ref q')) (keyOf H2 (.ref q)) = false := hxy
              rw [keyOf_eq hq, keyOf_eq hq'] at h1 hb'
              have dv : ∀ {i}, i < rs.length → (us.getD i 0).den ∣ B := fun {i} hi => by
                have : us[i]? = some us[i] := List.getElem?_eq_getElem (by omega)
                rw [List.getD_eq_getElem?_getD, this]
                exact hB i _ hi this
              have h2 := rk_bef (F := fun i => us.getD i 0) B0 (dv il') (dv il) (show bef (fun i => us.getD i 0) i' i from hb')
              rw [h2] at h1
              cases h1
end
end My

namespace My
open PySem L2
section
variable {P : Program} {w : World} {K : PySem.W.Frag} {mg : Str → Option Value} {base : Heap}
theorem no_over (q : Rat) : (nf q).lookup ("over" : Str) = none := nf_no _ (by decide +kernel) (by decide +kernel)
theorem no_less (q : Rat) : (nf q).lookup ("less" : Str) = none := nf_no _ (by decide +kernel) (by decide +kernel)
theorem no_times (q : Rat) : (nf q).lookup ("times" : Str) = none := nf_no _ (by decide +kernel) (by decide +kernel)
theorem no_floor (q : Rat) : (nf q).lookup ("floor" : Str) = none := nf_no _ (by decide +kernel) (by decide +kernel)
def spPlace (C : Addr) : Sp := fun vs H Q _ => ∃ (p s : Addr) (x y : Rat), vs = [.ref p, .ref s] ∧ NumAt C H p x ∧ NumAt C H s y ∧ Bd 2300 x ∧ Bd 900 y ∧ y ≠ 0 ∧
  ∀ (t pp : Addr) (H' : Hp), Same H H' → H' t = some (.tup [.int (x / y).floor, .int (highQ (x / y)), .ref pp]) → NumAt C H' pp (partQ (x / y)) → Q (.ref t) H'
theorem ok_place_of (T : Txt w K mg) : FnOk P w K mg base CX0 4 T.f_place_of T.fd_place_of ["number", "step"] (spPlace T.C_Number) := by
  refine T.F_place_of.ok sc_place_of (fun vs H Q E h => ?_) (fun cdv A outer s H vs Q E hr h => ?_)
  · obtain ⟨p, q, x, y, rfl, _⟩ := h
    rfl
  · obtain ⟨p, q, x, y, rfl, ⟨dx, hp⟩, ⟨dy, hq⟩, bx, by', y0, k⟩ := h
    have cN := T.c_Number
    have nT := T.n_Number_top
    have nB := T.n_Number_bottom
    have bn : Bd 3200 (x / y) := Bd.div bx by' y0
    have bf : Bd 3200 ((x / y).floor : Rat) := Bd.int (floor_bd bn) (by decide)
    refine ⟨_, (pss_cons (ps_set (i := 2) sc_place_of.nd rfl (Or.inl rfl) (pe_meth (pv 0) T.c_Number T.me_Number_over (ok_Number_over T) (hr.mono (by decide)) T.b_Number_over .nil pass0 (pa_cons (pv 1) pa_nil)))
 (pss_cons (ps_set (i := 3) sc_place_of.nd rfl (Or.inl rfl) (pe_meth0 (pv 2) T.c_Number T.me_Number_floor (ok_Number_floor T) (hr.mono (by decide)) T.b_Number_floor .nil pass0))
 (pss_cons (ps_set (i := 4) sc_place_of.nd rfl (Or.inl rfl) (pe_meth (pv 2) T.c_Number T.me_Number_less (ok_Number_less T) (hr.mono (by decide)) T.b_Number_less .nil pass0 (pa_cons (pe_make T.mk_Number (ok_Number_init T) (hr.mono (by decide)) (by rfl) T.m_Number T.b_Number_init1 T.d_Number_init1 pass0 (pa_cons (pv 3) pa_nil)) pa_nil)))
 (pss_cons (ps_set (i := 5) sc_place_of.nd rfl (Or.inl rfl) (pe_ifExp (pt_cmpR op_eq (pe_fld (pv 4) rfl) pe_int (nomark _)) (pv 3) (pe_op op_add (pv 3) pe_int)))
 (pss_one (ps_ret (pe_tup (pa_cons (pv 3) (pa_cons (pv 5) (pa_cons (pv 4) pa_nil)))))))))), ?_⟩
    walk_at "rdf"
    refine r_meth1 hp (no_over _) ?_
    walk_at "rdf"
    refine ⟨p, q, x, y, rfl, ⟨_, hp⟩, ⟨_, hq⟩, bx.mono (by decide), by'.mono (by decide), y0, fun r H1 s1 n1 h1 => ?_⟩
    obtain ⟨dr, hr1⟩ := h1
    walk_at "rdf"
    refine r_meth1 hr1 (no_floor _) ?_
    walk_at "rdf"
    refine ⟨r, x / y, rfl, ⟨_, hr1⟩, bn.mono (by decide), ?_⟩
    walk_at "rdf"
    refine r_meth1 hr1 (no_less _) ?_
    walk_at "rdf"
    refine mk_num1 fun u H2 s2 n2 h2 => ?_
    walk_at "rdf"
    refine ⟨r, u, x / y, ((x / y).floor : Rat), rfl, ⟨_, s2 _ _ hr1⟩, h2, bn.mono (by decide), bf.mono (by decide), trivial, fun pp H3 s3 n3 h3 => ?_⟩
    obtain ⟨dp, hp3⟩ := h3
    have s03 : Same H H3 := (s1.trans s2).trans s3
    walk_at "rdf"
    refine r_ite (fun e => ?_) (fun e => ?_)
    · have e' : highQ (x / y) = (x / y).floor := by
        unfold highQ
        exact if_pos (of_decide_eq_true e)
      walk_at "rdf"
      refine r_new (by show 3 ≤ 1000; decide) fun t ht => ?_
      exact k t pp _ (s03.trans (Same.new ht)) (by rw [upd_same, e']) ⟨dp, by rw [upd_ne (ne_of_none hp3 ht)]; exact hp3⟩
    · have e' : highQ (x / y) = (x / y).floor + 1 := by
        unfold highQ
        exact if_neg (of_decide_eq_false e)
      walk_at "rdf"
      refine r_new (by show 3 ≤ 1000; decide) fun t ht => ?_
      exact k t pp _ (s03.trans (Same.new ht)) (by rw [upd_same, e']) ⟨dp, by rw [upd_ne (ne_of_none hp3 ht)]; exact hp3⟩
/-! ### the ways -/
def wname : Way → Str
  | .up => "up" | .down => "down" | .high => "high" | .low => "low" | .hup => "half up" | .hdown => "half down" | .heven => "half even" | .hodd => "half odd"
def spRule (C : Addr) (r : Way) : Sp := fun vs H Q _ => ∃ (l : Int) (pp : Addr) (q : Rat), vs = [.int l, .ref pp] ∧ NumAt C H pp q ∧ Q (.bl (ruleB r l q)) H
def spNearer (C : Addr) : Sp := fun vs H Q _ => ∃ (pp : Addr) (q : Rat) (a : Bool), vs = [.ref pp, .bl a] ∧ NumAt C H pp q ∧ Q (.bl (nearerB q a)) H
theorem ok_nearer (T : Txt w K mg) : FnOk P w K mg base CX0 1 T.f_nearer T.fd_nearer ["part", "at_half"] (spNearer T.C_Number) := by
  refine T.F_nearer.ok sc_nearer (fun vs H Q E h => ?_) (fun cdv A outer s H vs Q E hr h => ?_)
  · obtain ⟨p, q, a, rfl, _⟩ := h
    rfl
  · obtain ⟨p, q, a, rfl, ⟨dx, hp⟩, k⟩ := h
    have cN := T.c_Number
    have nT := T.n_Number_top
    have nB := T.n_Number_bottom
    refine ⟨_, (pss_cons (ps_set (i := 2) sc_nearer.nd rfl (Or.inl rfl) (pe_op op_mul pe_int (pe_fld (pv 0) rfl)))
 (pss_cons (ps_if (pt_cmpR op_eq (pv 2) (pe_fld (pv 0) rfl) (nomark _))
  (pss_one (ps_ret (pv 1)))
  pss_nil)
 (pss_one (ps_ret (pe_cmpR op_gt (pv 2) (pe_fld (pv 0) rfl) (nomark _)))))), ?_⟩
    walk_at "rdf"
    unfold nearerB at k
    refine r_ite (fun e => ?_) (fun e => ?_)
    · walk_at "rdf"
      rw [if_pos (of_decide_eq_true e)] at k
      exact k
    · walk_at "rdf"
      rw [if_neg (of_decide_eq_false e)] at k
      exact k
theorem ok_by_up (T : Txt w K mg) : FnOk P w K mg base CX0 1 T.f_by_up T.fd_by_up ["low", "part"] (spRule T.C_Number .up) := by
  refine T.F_by_up.ok sc_by_up (fun vs H Q E h => ?_) (fun cdv A outer s H vs Q E hr h => ?_)
  · obtain ⟨l, pp, q, rfl, _⟩ := h
    rfl
  · obtain ⟨l, pp, q, rfl, hp, k⟩ := h
    refine ⟨_, (pss_one (ps_ret (pe_cmpR op_ge (pv 0) pe_int (nomark _)))), ?_⟩
    walk_at "rdf"
    exact k
theorem ok_by_down (T : Txt w K mg) : FnOk P w K mg base CX0 1 T.f_by_down T.fd_by_down ["low", "part"] (spRule T.C_Number .down) := by
  refine T.F_by_down.ok sc_by_down (fun vs H Q E h => ?_) (fun cdv A outer s H vs Q E hr h => ?_)
  · obtain ⟨l, pp, q, rfl, _⟩ := h
    rfl
  · obtain ⟨l, pp, q, rfl, hp, k⟩ := h
    refine ⟨_, (pss_one (ps_ret (pe_cmpR op_lt (pv 0) pe_int (nomark _)))), ?_⟩
    walk_at "rdf"
    exact k
theorem ok_by_high (T : Txt w K mg) : FnOk P w K mg base CX0 1 T.f_by_high T.fd_by_high ["low", "part"] (spRule T.C_Number .high) := by
  refine T.F_by_high.ok sc_by_high (fun vs H Q E h => ?_) (fun cdv A outer s H vs Q E hr h => ?_)
  · obtain ⟨l, pp, q, rfl, _⟩ := h
    rfl
  · obtain ⟨l, pp, q, rfl, hp, k⟩ := h
    refine ⟨_, (pss_one (ps_ret pe_bl)), ?_⟩
    walk_at "rdf"
    exact k
theorem ok_by_low (T : Txt w K mg) : FnOk P w K mg base CX0 1 T.f_by_low T.fd_by_low ["low", "part"] (spRule T.C_Number .low) := by
  refine T.F_by_low.ok sc_by_low (fun vs H Q E h => ?_) (fun cdv A outer s H vs Q E hr h => ?_)
  · obtain ⟨l, pp, q, rfl, _⟩ := h
    rfl
  · obtain ⟨l, pp, q, rfl, hp, k⟩ := h
    refine ⟨_, (pss_one (ps_ret pe_bl)), ?_⟩
    walk_at "rdf"
    exact k
theorem ok_by_half_up (T : Txt w K mg) : FnOk P w K mg base CX0 2 T.f_by_half_up T.fd_by_half_up ["low", "part"] (spRule T.C_Number .hup) := by
  refine T.F_by_half_up.ok sc_by_half_up (fun vs H Q E h => ?_) (fun cdv A outer s H vs Q E hr h => ?_)
  · obtain ⟨l, pp, q, rfl, _⟩ := h
    rfl
  · obtain ⟨l, pp, q, rfl, hp, k⟩ := h
    refine ⟨_, (pss_one (ps_ret (pe_call (ok_nearer T) (hr.mono (by decide)) (by rfl) T.m_nearer T.F_nearer.kp T.b_nearer .nil pass0 (pa_cons (pv 1) (pa_cons (pe_cmpR op_ge (pv 0) pe_int (nomark _)) pa_nil))))), ?_⟩
    walk_at "rdf"
    exact ⟨pp, q, _, rfl, hp, k⟩
theorem ok_by_half_down (T : Txt w K mg) : FnOk P w K mg base CX0 2 T.f_by_half_down T.fd_by_half_down ["low", "part"] (spRule T.C_Number .hdown) := by
  refine T.F_by_half_down.ok sc_by_half_down (fun vs H Q E h => ?_) (fun cdv A outer s H vs Q E hr h => ?_)
  · obtain ⟨l, pp, q, rfl, _⟩ := h
    rfl
  · obtain ⟨l, pp, q, rfl, hp, k⟩ := h
    refine ⟨_, (pss_one (ps_ret (pe_call (ok_nearer T) (hr.mono (by decide)) (by rfl) T.m_nearer T.F_nearer.kp T.b_nearer .nil pass0 (pa_cons (pv 1) (pa_cons (pe_cmpR op_lt (pv 0) pe_int (nomark _)) pa_nil))))), ?_⟩
    walk_at "rdf"
    exact ⟨pp, q, _, rfl, hp, k⟩
theorem ok_by_half_even (T : Txt w K mg) : FnOk P w K mg base CX0 2 T.f_by_half_even T.fd_by_half_even ["low", "part"] (spRule T.C_Number .heven) := by
  refine T.F_by_half_even.ok sc_by_half_even (fun vs H Q E h => ?_) (fun cdv A outer s H vs Q E hr h => ?_)
  · obtain ⟨l, pp, q, rfl, _⟩ := h
    rfl
  · obtain ⟨l, pp, q, rfl, hp, k⟩ := h
    refine ⟨_, (pss_one (ps_ret (pe_call (ok_nearer T) (hr.mono (by decide)) (by rfl) T.m_nearer T.F_nearer.kp T.b_nearer .nil pass0 (pa_cons (pv 1) (pa_cons (pe_cmpR op_eq (pe_op op_mod (pv 0) pe_int) pe_int (nomark _)) pa_nil))))), ?_⟩
    walk_at "rdf"
    exact ⟨pp, q, _, rfl, hp, k⟩
theorem ok_by_half_odd (T : Txt w K mg) : FnOk P w K mg base CX0 2 T.f_by_half_odd T.fd_by_half_odd ["low", "part"] (spRule T.C_Number .hodd) := by
  refine T.F_by_half_odd.ok sc_by_half_odd (fun vs H Q E h => ?_) (fun cdv A outer s H vs Q E hr h => ?_)
  · obtain ⟨l, pp, q, rfl, _⟩ := h
    rfl
  · obtain ⟨l, pp, q, rfl, hp, k⟩ := h
    refine ⟨_, (pss_one (ps_ret (pe_call (ok_nearer T) (hr.mono (by decide)) (by rfl) T.m_nearer T.F_nearer.kp T.b_nearer .nil pass0 (pa_cons (pv 1) (pa_cons (pe_cmpR op_eq (pe_op op_mod (pv 0) pe_int) pe_int (nomark _)) pa_nil))))), ?_⟩
    walk_at "rdf"
    exact ⟨pp, q, _, rfl, hp, k⟩
theorem rule_held (T : Txt w K mg) (r : Way) : ∃ (f : Addr) (fd : FuncData), FnOk P w K mg base CX0 2 f fd ["low", "part"] (spRule T.C_Number r) ∧ PySem.W.keepIn K (.ref f) = true ∧ Binds K fd ["low", "part"] [] ∧ KDct K w T.D_RULES (wname r) (.ref f) := by
  cases r with
  | up => exact ⟨_, _, (ok_by_up T).mono (by decide), T.F_by_up.kp, T.b_by_up, _, _, _, T.l_RULES, T.k_RULES, T.rule_by_up, rfl⟩
  | down => exact ⟨_, _, (ok_by_down T).mono (by decide), T.F_by_down.kp, T.b_by_down, _, _, _, T.l_RULES, T.k_RULES, T.rule_by_down, rfl⟩
  | high => exact ⟨_, _, (ok_by_high T).mono (by decide), T.F_by_high.kp, T.b_by_high, _, _, _, T.l_RULES, T.k_RULES, T.rule_by_high, rfl⟩
  | low => exact ⟨_, _, (ok_by_low T).mono (by decide), T.F_by_low.kp, T.b_by_low, _, _, _, T.l_RULES, T.k_RULES, T.rule_by_low, rfl⟩
  | hup => exact ⟨_, _, ok_by_half_up T, T.F_by_half_up.kp, T.b_by_half_up, _, _, _, T.l_RULES, T.k_RULES, T.rule_by_half_up, rfl⟩
  | hdown => exact ⟨_, _, ok_by_half_down T, T.F_by_half_down.kp, T.b_by_half_down, _, _, _, T.l_RULES, T.k_RULES, T.rule_by_half_down, rfl⟩
  | heven => exact ⟨_, _, ok_by_half_even T, T.F_by_half_even.kp, T.b_by_half_even, _, _, _, T.l_RULES, T.k_RULES, T.rule_by_half_even, rfl⟩
  | hodd => exact ⟨_, _, ok_by_half_odd T, T.F_by_half_odd.kp, T.b_by_half_odd, _, _, _, T.l_RULES, T.k_RULES, T.rule_by_half_odd, rfl⟩
def spPaper (C : Addr) : Sp := fun vs H Q _ => ∃ (p s : Addr) (x y : Rat) (r : Way), vs = [.ref p, .ref s, .str (wname r)] ∧ NumAt C H p x ∧ NumAt C H s y ∧ Bd 2300 x ∧ Bd 900 y ∧ y ≠ 0 ∧
  ∀ (t : Addr) (H' : Hp), Same H H' → H' t = some (.tup [.int (x / y).floor, .int (highQ (x / y)), .int (takenQ r (x / y))]) → Q (.ref t) H'
theorem is_str {w : World} {K : PySem.W.Frag} {H : Hp} {z : Str} {Q : VK} (q : Q (.bl true) H) : rIsi K [.str z, .ty "str"] H Q :=
  ⟨.str z, .ty "str", .type "str", .type "str", true, rfl, .ty "str", .base (.str z), kit_ty (by decide +kernel), q⟩
theorem highQ_eq {n : Rat} : n.floor = highQ n ↔ (partQ n).num = 0 := by
  unfold highQ
  split
  · exact ⟨fun _ => by assumption, fun _ => rfl⟩
  · exact ⟨fun e => by omega, fun e => absurd e (by assumption)⟩
theorem ok_round_paper (T : Txt w K mg) : FnOk P w K mg base CX0 5 T.f_round_paper T.fd_round_paper ["number", "step", "way"] (spPaper T.C_Number) := by
  refine T.F_round_paper.ok sc_round_paper (fun vs H Q E h => ?_) (fun cdv A outer s H vs Q E hr h => ?_)
  · obtain ⟨p, q, x, y, r, rfl, _⟩ := h
    rfl
  · obtain ⟨p, q, x, y, r, rfl, hp, hq, bx, by', y0, k⟩ := h
    obtain ⟨f, fd, Fr, kr, br, kd⟩ := rule_held (P := P) (base := base) T r
    refine ⟨_, (pss_cons (ps_asg (pe_call (ok_place_of T) (hr.mono (by decide)) (by rfl) T.m_place_of T.F_place_of.kp T.b_place_of .nil pass0 (pa_cons (pv 0) (pa_cons (pv 1) pa_nil))) (pg_tup rfl (pgs_cons (pg_name (i := 3) sc_round_paper.nd rfl (Or.inl rfl)) (pgs_cons (pg_name (i := 4) sc_round_paper.nd rfl (Or.inl rfl)) (pgs_cons (pg_name (i := 5) sc_round_paper.nd rfl (Or.inl rfl)) pgs_nil)))))
 (pss_cons (ps_if (pt_cmpR op_eq (pv 3) (pv 4) (nomark _))
  (pss_one (ps_ret (pe_tup (pa_cons (pv 3) (pa_cons (pv 4) (pa_cons (pv 3) pa_nil))))))
  pss_nil)
 (pss_cons (ps_set (i := 6) sc_round_paper.nd rfl (Or.inl rfl) (pv 2))
 (pss_cons (ps_if (pt_val (pe_callB call_isi (by rfl) T.n_isinstance (by decide +kernel) (pa_cons (pv 2) (pa_cons (pe_bltn (v := .ty "str") (by rfl) T.n_str (by decide +kernel) rfl) pa_nil))))
  (pss_one (ps_set (i := 6) sc_round_paper.nd rfl (Or.inl rfl) (pe_ix ix_kdict (pe_glob (v := .ref T.D_RULES) (by rfl) T.m_RULES rfl) (pv 2) (fun _ _ => rfl))))
  pss_nil)
 (pss_cons (ps_if (pt_cmpR op_isBl (pe_callL (i := 6) Fr (hr.mono (by decide)) rfl (Or.inl rfl) kr br .nil pass0 (pa_cons (pv 3) (pa_cons (pv 5) pa_nil))) pe_bl (nomark _))
  (pss_one (ps_ret (pe_tup (pa_cons (pv 3) (pa_cons (pv 4) (pa_cons (pv 4) pa_nil))))))
  pss_nil)
 (pss_one (ps_ret (pe_tup (pa_cons (pv 3) (pa_cons (pv 4) (pa_cons (pv 3) pa_nil))))))))))), ?_⟩
    walk_at "rd"
    refine ⟨p, q, x, y, rfl, hp, hq, bx, by', y0, fun t pp H1 s1 h1 hpp => ?_⟩
    refine ⟨t, _, rfl, SqT.of h1, rfl, _, _, rfl, ?_⟩
    walk_at "rd"
    refine ⟨_, _, rfl, ?_⟩
    walk_at "rd"
    refine ⟨_, _, rfl, ?_⟩
    walk_at "rd"
    refine ⟨rfl, ?_⟩
    walk_at "rd"
    refine r_ite (fun e => ?_) (fun e => ?_)
    · walk_at "rd"
      refine r_new (by show 3 ≤ 1000; decide) fun t2 ht => ?_
      have e1 := highQ_eq.mp (of_decide_eq_true e)
      have e2 : takenQ r (x / y) = (x / y).floor := by unfold takenQ; rw [if_pos e1]
      exact k t2 _ (s1.trans (Same.new ht)) (by rw [upd_same, e2])
    · have e1 : ¬ (partQ (x / y)).num = 0 := fun z => of_decide_eq_false e (highQ_eq.mpr z)
      have e3 : highQ (x / y) = (x / y).floor + 1 := by unfold highQ; rw [if_neg e1]
      walk_at "rd"
      refine is_str (w := w) ?_
      walk_at "rd"
      refine r_iteT rfl ?_
      walk_at "rd"
      refine ⟨_, _, _, rfl, rfl, kd, ?_⟩
      walk_at "rd"
      refine ⟨rfl, ?_⟩
      walk_at "rd"
      refine ⟨_, pp, partQ (x / y), rfl, hpp, ?_⟩
      walk_at "rd"
      refine ⟨_, _, rfl, rfl, ?_⟩
      walk_at "rd"
      refine r_ite (fun z => ?_) (fun z => ?_)
      · have z' : ruleB r (x / y).floor (partQ (x / y)) = true := of_decide_eq_true z
        walk_at "rd"
        refine r_new (by show 3 ≤ 1000; decide) fun t2 ht => ?_
        have e2 : takenQ r (x / y) = highQ (x / y) := by unfold takenQ; rw [if_neg e1, if_pos z', e3]
        exact k t2 _ (s1.trans (Same.new ht)) (by rw [upd_same, e2])
      · have z' : ¬ ruleB r (x / y).floor (partQ (x / y)) = true := of_decide_eq_false z
        walk_at "rd"
        refine r_new (by show 3 ≤ 1000; decide) fun t2 ht => ?_
        have e2 : takenQ r (x / y) = (x / y).floor := by unfold takenQ; rw [if_neg e1, if_neg z']
        exact k t2 _ (s1.trans (Same.new ht)) (by rw [upd_same, e2])
theorem taken_bd {n : Nat} {r : Way} {x : Rat} (h : Bd n x) : (takenQ r x).natAbs < 2 ^ (n + 1) := by
  have b := floor_bd h
  rw [Nat.pow_succ]
  unfold takenQ
  split
  · omega
  · split <;> omega
end
end My

namespace My
open PySem L2
section
variable {K : PySem.W.Frag}
/-- a comprehension over a list: what is kept, and what is put for it -/
theorem lcL_of {α : Type} {H : Hp} {a D : Addr} {zs : List α} {el e : α → V} {f : α → Bool} (hl : SqL K H a (zs.map el)) (hn : zs.length ≤ 1000) (hD : H D = none) {g : TG} {tt : TT} {te : TE} {i : Nat} {σ : L2.St} {Q : Hp → Prop} {vz : List Nat}
    (hg : ∀ (z : α) (H1 : Hp) (R : L2.St → Hp → Prop), z ∈ zs → R ((wipe σ vz).set i (some (el z))) H1 → g (el z) (wipe σ vz) H1 R)
    (hw : ∀ v : V, wipe ((wipe σ vz).set i (some v)) vz = wipe σ vz)
    (ht : ∀ (z : α) (H1 : Hp) (R : Bool → Hp → Prop), z ∈ zs → Same H H1 → (∀ H2, Same H1 H2 → R (f z) H2) → tt ((wipe σ vz).set i (some (el z))) H1 R)
    (he : ∀ (z : α) (H1 : Hp) (R : VK), z ∈ zs → f z = true → Same H H1 → (∀ H2, Same H1 H2 → R (e z) H2) → te ((wipe σ vz).set i (some (el z))) H1 R)
    (q : ∀ H' : Hp, Same H H' → H' D = some (.lst ((zs.filter f).map e)) → Q H') :
    ∃ W : Nat → Nat → Hp → Prop, (∃ m, W 0 m (upd H D (.lst []))) ∧ ∀ i m H, W i m H →
      ((Itl K a).stop i H ∧ Q H) ∨ ((Itl K a).go i H ∧ ∃ Nx : Hp → Prop, (∀ H', Nx H' → ∃ m', m' < m ∧ W (i + 1) m' H') ∧ ∀ x H', (Itl K a).yld i H x H' → g x (wipe σ vz) H' fun σ2 H2 => wipe σ2 vz = wipe σ vz ∧ tt σ2 H2 fun b H3 =>
        if b = true then te σ2 H3 fun y H4 => ∃ acc, H4 D = some (.lst acc) ∧ acc.length < sizeLine ∧ Nx (upd H4 D (.lst (acc ++ [y]))) else Nx H3) := by
  refine lc_list (K := K) (a := a) (xs := zs.map el) (fun j H' => Same H H' ∧ H' D = some (.lst (((zs.take j).filter f).map e)) ∧ j ≤ zs.length) ⟨Same.new hD, upd_same, Nat.zero_le _⟩ (fun j H' _ ⟨s, _⟩ => SqL.ext hl s) ?_ ?_
  · rintro j x H1 hx ⟨s1, hD1, hj⟩
    rw [List.getElem?_map] at hx
    obtain ⟨z, hz, rfl⟩ : ∃ z, zs[j]? = some z ∧ el z = x := by
      cases e : zs[j]? with
      | none => rw [e] at hx; cases hx
      | some z => rw [e] at hx; exact ⟨z, rfl, Option.some.inj hx⟩
    have hm : z ∈ zs := List.mem_of_getElem? hz
    have jl : j < zs.length := by
      rcases Nat.lt_or_ge j zs.length with h | h
      · exact h
      · rw [List.getElem?_eq_none h] at hz; cases hz
    have tk : zs.take (j + 1) = zs.take j ++ [z] := by rw [List.take_add_one, hz]; rfl
    refine hg z H1 _ hm ⟨hw _, ?_⟩
    refine ht z H1 _ hm s1 fun H2 s2 => ?_
    cases fz : f z with
    | false =>
      refine (iteF ?_ : if false = true then _ else _)
      refine ⟨s1.trans s2, ?_, by omega⟩
      rw [s2 _ _ hD1, tk, List.filter_append, List.filter_cons, fz]
      simp
    | true =>
      refine (iteT ?_ : if true = true then _ else _)
      refine he z H2 _ hm fz (s1.trans s2) fun H3 s3 => ?_
      have hD3 := s3 _ _ (s2 _ _ hD1)
      refine ⟨_, hD3, ?_, ?_, ?_, by omega⟩
      · rw [List.length_map]
        refine Nat.lt_of_le_of_lt (Nat.le_trans (List.length_filter_le _ _) ?_) (show 1000 < sizeLine by decide)
        rw [List.length_take]
        omega
      · intro b o hb
        rw [upd_ne (ne_of_none hb hD)]
        exact s3 _ _ (s2 _ _ (s1 _ _ hb))
      · rw [upd_same, tk, List.filter_append, List.filter_cons, fz]
        simp
  · rintro H1 ⟨s1, hD1, _⟩
    refine q H1 s1 ?_
    rw [hD1, List.take_of_length_le (by rw [List.length_map]; omega)]
/-- the same over a tuple -/
theorem lcT_of {α : Type} {H : Hp} {a D : Addr} {zs : List α} {el e : α → V} {f : α → Bool} (hl : SqT K H a (zs.map el)) (hn : zs.length ≤ 1000) (hD : H D = none) {g : TG} {tt : TT} {te : TE} {i : Nat} {σ : L2.St} {Q : Hp → Prop} {vz : List Nat}
    (hg : ∀ (z : α) (H1 : Hp) (R : L2.St → Hp → Prop), z ∈ zs → R ((wipe σ vz).set i (some (el z))) H1 → g (el z) (wipe σ vz) H1 R)
    (hw : ∀ v : V, wipe ((wipe σ vz).set i (some v)) vz = wipe σ vz)
    (ht : ∀ (z : α) (H1 : Hp) (R : Bool → Hp → Prop), z ∈ zs → Same H H1 → (∀ H2, Same H1 H2 → R (f z) H2) → tt ((wipe σ vz).set i (some (el z))) H1 R)
    (he : ∀ (z : α) (H1 : Hp) (R : VK), z ∈ zs → f z = true → Same H H1 → (∀ H2, Same H1 H2 → R (e z) H2) → te ((wipe σ vz).set i (some (el z))) H1 R)
    (q : ∀ H' : Hp, Same H H' → H' D = some (.lst ((zs.filter f).map e)) → Q H') :
    ∃ W : Nat → Nat → Hp → Prop, (∃ m, W 0 m (upd H D (.lst []))) ∧ ∀ i m H, W i m H →
      ((Itt K a).stop i H ∧ Q H) ∨ ((Itt K a).go i H ∧ ∃ Nx : Hp → Prop, (∀ H', Nx H' → ∃ m', m' < m ∧ W (i + 1) m' H') ∧ ∀ x H', (Itt K a).yld i H x H' → g x (wipe σ vz) H' fun σ2 H2 => wipe σ2 vz = wipe σ vz ∧ tt σ2 H2 fun b H3 =>
        if b = true then te σ2 H3 fun y H4 => ∃ acc, H4 D = some (.lst acc) ∧ acc.length < sizeLine ∧ Nx (upd H4 D (.lst (acc ++ [y]))) else Nx H3) := by
  refine lc_tup (K := K) (a := a) (xs := zs.map el) (fun j H' => Same H H' ∧ H' D = some (.lst (((zs.take j).filter f).map e)) ∧ j ≤ zs.length) ⟨Same.new hD, upd_same, Nat.zero_le _⟩ (fun j H' _ ⟨s, _⟩ => SqT.ext hl s) ?_ ?_
  · rintro j x H1 hx ⟨s1, hD1, hj⟩
    rw [List.getElem?_map] at hx
    obtain ⟨z, hz, rfl⟩ : ∃ z, zs[j]? = some z ∧ el z = x := by
      cases e : zs[j]? with
      | none => rw [e] at hx; cases hx
      | some z => rw [e] at hx; exact ⟨z, rfl, Option.some.inj hx⟩
    have hm : z ∈ zs := List.mem_of_getElem? hz
    have jl : j < zs.length := by
      rcases Nat.lt_or_ge j zs.length with h | h
      · exact h
      · rw [List.getElem?_eq_none h] at hz; cases hz
    have tk : zs.take (j + 1) = zs.take j ++ [z] := by rw [List.take_add_one, hz]; rfl
    refine hg z H1 _ hm ⟨hw _, ?_⟩
    refine ht z H1 _ hm s1 fun H2 s2 => ?_
    cases fz : f z with
    | false =>
      refine (iteF ?_ : if false = true then _ else _)
      refine ⟨s1.trans s2, ?_, by omega⟩
      rw [s2 _ _ hD1, tk, List.filter_append, List.filter_cons, fz]
      simp
    | true =>
      refine (iteT ?_ : if true = true then _ else _)
      refine he z H2 _ hm fz (s1.trans s2) fun H3 s3 => ?_
      have hD3 := s3 _ _ (s2 _ _ hD1)
      refine ⟨_, hD3, ?_, ?_, ?_, by omega⟩
      · rw [List.length_map]
        refine Nat.lt_of_le_of_lt (Nat.le_trans (List.length_filter_le _ _) ?_) (show 1000 < sizeLine by decide)
        rw [List.length_take]
        omega
      · intro b o hb
        rw [upd_ne (ne_of_none hb hD)]
        exact s3 _ _ (s2 _ _ (s1 _ _ hb))
      · rw [upd_same, tk, List.filter_append, List.filter_cons, fz]
        simp
  · rintro H1 ⟨s1, hD1, _⟩
    refine q H1 s1 ?_
    rw [hD1, List.take_of_length_le (by rw [List.length_map]; omega)]
theorem filter_yes {α : Type} (zs : List α) : zs.filter (fun _ => true) = zs := List.filter_eq_self.mpr fun _ _ => rfl
theorem r_yes {σ : L2.St} {H : Hp} {R : Bool → Hp → Prop} (h : ∀ H2, Same H H2 → R true H2) : tYes σ H R := h H (Same.refl _)
theorem r_eqInts {H : Hp} {Q : VK} {p q : Addr} {xs ys : List Int} (h : SqL K H p (xs.map V.int)) (h' : SqL K H q (ys.map V.int)) (k : Q (.bl (decide (xs = ys))) H) : rEqD K (.ref p) (.ref q) H Q :=
  ⟨.list (xs.map PyData.int), .list (ys.map PyData.int), .lst h (dp_ints xs), .lst h' (dp_ints ys), shaped_ints xs, shaped_ints ys, by
    rw [PyData.eqv, eqv_ints]; exact k⟩
end
end My

namespace My
open PySem L2
theorem op_in_seqK {X : Cx} {K0 : PySem.W.Frag} (hK : X.K = K0) : OpR X (compareOp .In) (rIn K0 false) := by
  subst hK
  exact op_in_seq
theorem NumsV.of {C : Addr} {H : Hp} : ∀ {vs : List V} {xs : List Rat}, vs.length = xs.length → (∀ (i : Nat) (v : V), vs[i]? = some v → ∃ (p : Addr) (x : Rat), v = .ref p ∧ xs[i]? = some x ∧ NumAt C H p x) → NumsV C H vs xs
  | [], [], _, _ => .nil
  | [], _ :: _, h, _ => by simp at h
  | _ :: _, [], h, _ => by simp at h
  | v :: vs, x :: xs, h, k => by
    obtain ⟨p, y, rfl, hy, hn⟩ := k 0 v rfl
    obtain rfl := Option.some.inj hy
    exact .cons hn (NumsV.of (by simpa using h) fun i v hv => k (i + 1) v hv)
/-- what stands in a list of places -/
def PlsAt (C : Addr) (H : Hp) (ts : List V) (us : List Rat) : Prop := ∀ (i : Nat) (t : V), ts[i]? = some t → ∃ (q pp : Addr) (u : Rat), t = .ref q ∧ us[i]? = some u ∧ H q = some (.tup [.int u.floor, .int (highQ u), .ref pp]) ∧ NumAt C H pp (partQ u)
theorem PlsAt.same {C : Addr} {H H' : Hp} {ts : List V} {us : List Rat} (s : Same H H') (h : PlsAt C H ts us) : PlsAt C H' ts us := fun i t ht =>
  let ⟨q, pp, u, e, hu, hq, hn⟩ := h i t ht
  ⟨q, pp, u, e, hu, s _ _ hq, hn.same s⟩
theorem PlsAt.put {C : Addr} {H : Hp} {ts us' : List V} {us : List Rat} {D : Addr} (hD : H D = some (.lst us')) {o : HO} (h : PlsAt C H ts us) : PlsAt C (upd H D o) ts us := fun i t ht =>
  let ⟨q, pp, u, e, hu, hq, hn⟩ := h i t ht
  ⟨q, pp, u, e, hu, by rw [upd_ne (ne_of hq hD (fun z => by cases z))]; exact hq, let ⟨dx, he⟩ := hn; ⟨dx, by rw [upd_ne (ne_of he hD (fun z => by cases z))]; exact he⟩⟩
section
variable {P : Program} {w : World} {K : PySem.W.Frag} {mg : Str → Option Value} {base : Heap}
theorem part_bd {n : Nat} {u : Rat} (h : Bd n u) : Bd n (partQ u) := by
  have d0 := u.den_pos
  have e : partQ u = Rat.divInt (u.num % (u.den : Int)) (u.den : Int) := by
    unfold partQ
    rw [Rat.divInt_eq_div, Rat.floor_def]
    have h1 := num_over_den u
    have h2 : u.num % (u.den : Int) = u.num - (u.den : Int) * (u.num / (u.den : Int)) := Int.emod_def _ _
    rw [h2, Rat.intCast_sub, Rat.intCast_mul]
    have dn : (((u.den : Nat) : Int) : Rat) ≠ 0 := by
      intro z
      have := Rat.intCast_eq_zero_iff.mp z
      omega
    have h1' : (u.num : Rat) / (((u.den : Nat) : Int) : Rat) = u := h1
    generalize (u.num / (u.den : Int)) = f
    generalize (((u.den : Nat) : Int) : Rat) = dq at *
    generalize (u.num : Rat) = nq at *
    rw [← h1']
    grind
  rw [e]
  have m0 := Int.emod_nonneg u.num (show (u.den : Int) ≠ 0 by omega)
  have m1 := Int.emod_lt_of_pos u.num (show (0 : Int) < u.den by omega)
  have hd := h.2
  exact Bd.of (by omega) (by omega) (by omega)
theorem sum_floor : ∀ us : List Rat, (((us.map Rat.floor).sum : Int) : Rat) ≤ sumQ us
  | [] => by show ((0 : Int) : Rat) ≤ 0; decide
  | u :: us => by
    have a := Rat.floor_le u
    have c := sum_floor us
    rw [List.map_cons, List.sum_cons, Rat.intCast_add]
    show _ ≤ u + sumQ us
    grind
theorem sumQ_over (y : Rat) : ∀ xs : List Rat, sumQ (xs.map (· / y)) = sumQ xs / y
  | [] => by show (0 : Rat) = 0 / y; grind
  | x :: xs => by
    show x / y + sumQ (xs.map (· / y)) = (x + sumQ xs) / y
    rw [sumQ_over y xs]
    grind
theorem taken_ge (r : Way) (u : Rat) : u.floor ≤ takenQ r u := by
  unfold takenQ
  split
  · exact Int.le_refl _
  · split <;> omega
theorem steps_left {xs : List Rat} {y : Rat} : ∃ n : Nat, takenQ .heven (sumQ xs / y) - ((xs.map (· / y)).map Rat.floor).sum = (n : Int) := by
  have a := sum_floor (xs.map (· / y))
  rw [sumQ_over] at a
  have c := Rat.le_floor_iff.mpr a
  have d := taken_ge .heven (sumQ xs / y)
  exact ⟨(takenQ .heven (sumQ xs / y) - ((xs.map (· / y)).map Rat.floor).sum).toNat, by omega⟩
theorem in_nats {i : Nat} {l : List Nat} : inV (.int (i : Int)) (l.map fun i : Nat => V.int (i : Int)) = decide (i ∈ l) := by
  unfold inV
  rw [Bool.eq_iff_iff, List.any_eq_true, decide_eq_true_eq]
  constructor
  · rintro ⟨v, hv, e⟩
    obtain ⟨j, hj, rfl⟩ := List.mem_map.mp hv
    have : (j : Int) = (i : Int) := by simpa [eqV] using e
    have : j = i := by omega
    rw [← this]; exact hj
  · intro h
    exact ⟨_, List.mem_map.mpr ⟨i, h, rfl⟩, by simp [eqV]⟩
theorem flat_nats (l : List Nat) : (l.map fun i : Nat => V.int (i : Int)).all flatV = true := by
  rw [List.all_eq_true]
  intro v hv
  obtain ⟨j, _, rfl⟩ := List.mem_map.mp hv
  rfl
/-- the count of the part at a place -/
def cntI (fl : List Int) (G : List Nat) (i : Nat) : Int := if i ∈ G then fl.getD i 0 + 1 else fl.getD i 0
theorem ok_total_of (T : Txt w K mg) : FnOk P w K mg base CX0 10 T.f_total_of T.fd_total_of ["numbers"] (spTotal T.C_Number 6) := ok_total_ofN T 6
def spParts (C : Addr) : Sp := fun vs H Q _ => ∃ (p s : Addr) (xs : List Rat) (y : Rat) (b : Nat), vs = [.ref p, .ref s] ∧ PartsAt C H p xs ∧ NumAt C H s y ∧ (0 < y ∧ Bd 45 y) ∧ (∀ x ∈ xs, Bd b x) ∧ (0 < xs.length ∧ xs.length ≤ 32) ∧ ((b + 1) * (xs.length + 1) ≤ 2300 ∧ (b + 45) * xs.length + 1 ≤ 6000 ∧ b ≤ 900) ∧
  ∀ (t p2 q : Addr) (cs : List Int) (wq : Rat) (L : List Nat) (H' : Hp), Same H H' → H' t = some (.tup [.ref p2, .ref q]) → H' p2 = some (.tup (cs.map V.int)) → NumAt C H' q wq → Ord (fun i => (((xs.map (· / y)).map partQ).getD i 0)) xs.length L →
    (∀ n : Nat, (n : Int) = takenQ .heven (sumQ xs / y) - ((xs.map (· / y)).map Rat.floor).sum → cs = (List.range xs.length).map (fun i => if i ∈ L.take n then ((xs.map (· / y)).map Rat.floor).getD i 0 + 1 else ((xs.map (· / y)).map Rat.floor).getD i 0) ∧
      wq = match (L.take n).getLast? with | none => 1 | some i => (((xs.map (· / y)).map partQ).getD i 0)) → Q (.ref t) H'
theorem ok_parts_rounded (T : Txt w K mg) : FnOk P w K mg base CX0 11 T.f_parts_rounded T.fd_parts_rounded ["parts", "step"] (spParts T.C_Number) := by
  refine T.F_parts_rounded.ok sc_parts_rounded (fun vs H Q E h => ?_) (fun cdv A outer s H vs Q E hr h => ?_)
  · obtain ⟨p, s, xs, y, b, rfl, _⟩ := h
    rfl
  · obtain ⟨p, s', xs, y, b, rfl, hp, hs, ⟨y0, by'⟩, hb, ⟨n0, n32⟩, ⟨bl, bl2, b9⟩, k⟩ := h
    refine ⟨_, (pss_cons (ps_setLc (i := 2) (own := [("part", 8)]) (g := gName 8) (tt := tYes) rfl sc_parts_rounded.nd rfl rfl (sw_true rfl rfl rfl (by decide +kernel)) (pi_tup (pv 0)) (blkOk_by (own := [("part", 8)]) (N := ["parts", "step", "places", "lows", "beyond", "total", "greater", "counts", "part", "low", "_", "at"]) (sc := defScope s_parts_rounded) (by decide +kernel)) (fun _ _ _ _ _ => pg_name (i := 8) sc_parts_rounded.nd rfl (Or.inl rfl)) (fun _ _ _ _ _ => pts_nil) (fun _ _ _ _ _ => (pe_call (ok_place_of T) (hr.mono (by decide)) (by rfl) T.m_place_of T.F_place_of.kp T.b_place_of .nil pass0 (pa_cons (pv 8) (pa_cons (pv 1) pa_nil)))))
 (pss_cons (ps_setLc (i := 3) (own := [("low", 9), ("_", 10)]) (g := gTup K 3 (gCons (gName 9) (gCons (gName 10) (gCons (gName 10) gNil)))) (tt := tYes) rfl sc_parts_rounded.nd rfl rfl (sw_true rfl rfl rfl (by decide +kernel)) (pi_list (pv 2)) (blkOk_by (own := [("low", 9), ("_", 10)]) (N := ["parts", "step", "places", "lows", "beyond", "total", "greater", "counts", "part", "low", "_", "at"]) (sc := defScope s_parts_rounded) (by decide +kernel)) (fun _ _ _ _ _ => pg_tup rfl (pgs_cons (pg_name (i := 9) sc_parts_rounded.nd rfl (Or.inl rfl)) (pgs_cons (pg_name (i := 10) sc_parts_rounded.nd rfl (Or.inl rfl)) (pgs_cons (pg_name (i := 10) sc_parts_rounded.nd rfl (Or.inl rfl)) pgs_nil)))) (fun _ _ _ _ _ => pts_nil) (fun _ _ _ _ _ => (pv 9)))
 (pss_cons (ps_setLc (i := 4) (own := [("_", 10), ("part", 8)]) (g := gTup K 3 (gCons (gName 10) (gCons (gName 10) (gCons (gName 8) gNil)))) (tt := tYes) rfl sc_parts_rounded.nd rfl rfl (sw_true rfl rfl rfl (by decide +kernel)) (pi_list (pv 2)) (blkOk_by (own := [("_", 10), ("part", 8)]) (N := ["parts", "step", "places", "lows", "beyond", "total", "greater", "counts", "part", "low", "_", "at"]) (sc := defScope s_parts_rounded) (by decide +kernel)) (fun _ _ _ _ _ => pg_tup rfl (pgs_cons (pg_name (i := 10) sc_parts_rounded.nd rfl (Or.inl rfl)) (pgs_cons (pg_name (i := 10) sc_parts_rounded.nd rfl (Or.inl rfl)) (pgs_cons (pg_name (i := 8) sc_parts_rounded.nd rfl (Or.inl rfl)) pgs_nil)))) (fun _ _ _ _ _ => pts_nil) (fun _ _ _ _ _ => (pv 8)))
 (pss_cons (ps_set (i := 5) sc_parts_rounded.nd rfl (Or.inl rfl) (pe_ix ix_tup (pe_call (ok_round_paper T) (hr.mono (by decide)) (by rfl) T.m_round_paper T.F_round_paper.kp T.b_round_paper T.d_round_paper pass0 (pa_cons (pe_call (ok_total_of T) (hr.mono (by decide)) (by rfl) T.m_total_of T.F_total_of.kp T.b_total_of .nil pass0 (pa_cons (pv 0) pa_nil)) (pa_cons (pv 1) pa_nil))) pe_int (fun _ _ => rfl)))
 (pss_cons (ps_set (i := 6) sc_parts_rounded.nd rfl (Or.inr rfl) (pe_slice sl_list (pe_call (ok_furthest_first T) (hr.mono (by decide)) (by rfl) T.m_furthest_first T.F_furthest_first.kp T.b_furthest_first .nil pass0 (pa_cons (pv 4) pa_nil)) po_none (po_some (pe_op op_sub (pv 5) (pe_callB (cr_sum rfl) (by rfl) T.n_sum (by decide +kernel) (pa_cons (pv 3) pa_nil))))))
 (pss_cons (ps_set (i := 7) sc_parts_rounded.nd rfl (Or.inl rfl) (pe_callTy call_tuple_of (by rfl) T.n_tuple (by decide +kernel) (pa_cons (pe_lc (own := [("at", 11), ("low", 9)]) (g := gTup K 2 (gCons (gName 11) (gCons (gName 9) gNil))) (tt := tYes) rfl sc_parts_rounded.nd (pi_enum (by rfl) T.n_enumerate (pa_cons (pv 3) pa_nil)) (blkOk_by (own := [("at", 11), ("low", 9)]) (N := ["parts", "step", "places", "lows", "beyond", "total", "greater", "counts", "part", "low", "_", "at"]) (sc := defScope s_parts_rounded) (by decide +kernel)) (fun _ _ _ _ _ => pg_tup rfl (pgs_cons (pg_name (i := 11) sc_parts_rounded.nd rfl (Or.inl rfl)) (pgs_cons (pg_name (i := 9) sc_parts_rounded.nd rfl (Or.inl rfl)) pgs_nil))) (fun _ _ _ _ _ => pts_nil) (fun _ _ _ _ _ => (pe_ifExp (pt_cmpR (op_in_seqK (K0 := K) rfl) (pv 11) (pv 6) (by rfl)) (pe_op op_add (pv 9) pe_int) (pv 9)))) pa_nil)))
 (pss_cons (ps_if (pt_cmpR (op_eqD hr.units) (pv 6) (pe_lst pa_nil) (nomark _))
  (pss_one (ps_ret (pe_tup (pa_cons (pv 7) (pa_cons (pe_make T.mk_Number (ok_Number_init T) (hr.mono (by decide)) (by rfl) T.m_Number T.b_Number_init1 T.d_Number_init1 pass0 (pa_cons pe_int pa_nil)) pa_nil)))))
  pss_nil)
 (pss_one (ps_ret (pe_tup (pa_cons (pv 7) (pa_cons (pe_ix ix_list (pv 4) (pe_ix ix_list (pv 6) (pe_un un_neg pe_int) (fun _ _ => rfl)) (fun _ _ => rfl)) pa_nil)))))))))))), ?_⟩
    obtain ⟨vs, hv, hn⟩ := id hp
    have len := hn.len
    have yne : y ≠ 0 := by grind
    have ul : (xs.map (· / y)).length = xs.length := List.length_map _
    have ub : ∀ u ∈ xs.map (· / y), Bd (b + 45) u := fun u hu => by
      obtain ⟨x, hx, rfl⟩ := List.mem_map.mp hu
      exact Bd.div (hb x hx) by' yne
    walk_at "rdh"
    refine r_lcT ?_
    walk_at "rdh"
    refine ⟨p, rfl, ⟨_, SqT.of hv⟩, fun D hD => ?_⟩
    refine lc_tup (K := K) (a := p) (xs := vs) (fun j H' => Same H H' ∧ ∃ ts : List V, H' D = some (.lst ts) ∧ ts.length = j ∧ j ≤ vs.length ∧ PlsAt T.C_Number H' ts (xs.map (· / y))) ⟨Same.new hD, [], upd_same, rfl, Nat.zero_le _, fun i t h => by simp at h⟩ (fun j H' _ ⟨s, _⟩ => SqT.of (s _ _ hv)) ?_ ?_
    · rintro j z H2 hz ⟨s2, ts, hts, lts, jl, hk⟩
      obtain ⟨q, x, rfl, hx, hq⟩ := hn.get hz
      have jl' : j < vs.length := (List.getElem?_eq_some_iff.mp hz).1
      walk_at "rdh"
      refine ⟨rfl, ?_⟩
      refine r_tyes ?_
      walk_at "rdh"
      refine ⟨q, s', x, y, rfl, hq.same s2, hs.same s2, (hb x (List.mem_of_getElem? hx)).mono (by omega), by'.mono (by decide), yne, fun t pp H3 s3 h3 n3 => ?_⟩
      refine ⟨ts, s3 _ _ hts, by rw [lts]; exact Nat.lt_of_lt_of_le (show j < 32 by omega) (by decide), ?_, ts ++ [.ref t], upd_same, by rw [List.length_append, lts]; rfl, by omega, ?_⟩
      · intro c o hc
        rw [upd_ne (ne_of_none hc hD)]
        exact s3 _ _ (s2 _ _ hc)
      · refine PlsAt.put (s3 _ _ hts) fun i v hv' => ?_
        by_cases il : i < ts.length
        · rw [List.getElem?_append_left il] at hv'
          exact (hk.same s3) i v hv'
        · have ei : i = ts.length := by
            have := (List.getElem?_eq_some_iff.mp hv').1
            rw [List.length_append, List.length_singleton] at this
            omega
          subst ei
          rw [List.getElem?_append_right (Nat.le_refl _), Nat.sub_self] at hv'
          exact ⟨t, pp, x / y, (Option.some.inj hv').symm, by rw [lts, List.getElem?_map, hx]; rfl, h3, n3⟩
    · rintro H1 ⟨s1, ts, hts, lts, _, hk⟩
      walk_at "rdh"
      refine r_lcL ?_
      walk_at "rdh"
      refine ⟨D, rfl, ⟨_, SqL.of hts⟩, fun D2 hD2 => ?_⟩
      refine lc_list (K := K) (a := D) (xs := ts) (fun j H' => Same H1 H' ∧ H' D2 = some (.lst ((((xs.map (· / y)).map Rat.floor).take j).map V.int)) ∧ j ≤ ts.length) ⟨Same.new hD2, upd_same, Nat.zero_le _⟩ (fun j H' _ ⟨s, _⟩ => SqL.of (s _ _ hts)) ?_ ?_
      · rintro j z H3 hz ⟨s3, hD3, jl⟩
        obtain ⟨q, pp, u, rfl, hu, hq, hpp⟩ := hk j z hz
        have jl' : j < ts.length := (List.getElem?_eq_some_iff.mp hz).1
        refine r_gTup (s3 _ _ hq) rfl ?_
        walk_at "rdh"
        refine ⟨rfl, ?_⟩
        refine r_tyes ?_
        walk_at "rdh"
        refine ⟨_, hD3, by rw [List.length_map, List.length_take]; exact Nat.lt_of_lt_of_le (show min j _ < 33 by omega) (by decide), ?_, ?_, by omega⟩
        · intro c o hc
          rw [upd_ne (ne_of_none hc hD2)]
          exact s3 _ _ hc
        · have : ((xs.map (· / y)).map Rat.floor)[j]? = some u.floor := by rw [List.getElem?_map, hu]; rfl
          rw [upd_same, List.take_add_one, this, List.map_append]
          rfl
      rintro H3 ⟨s3, hD2', _⟩
      rw [List.take_of_length_le (by rw [List.length_map, ul]; omega)] at hD2'
      have hts3 := s3 _ _ hts
      have hk3 := hk.same s3
      walk_at "rdh"
      refine r_lcL ?_
      walk_at "rdh"
      refine ⟨D, rfl, ⟨_, SqL.of hts3⟩, fun D4 hD4 => ?_⟩
      refine lc_list (K := K) (a := D) (xs := ts) (fun j H' => Same H3 H' ∧ ∃ rs : List V, H' D4 = some (.lst rs) ∧ rs.length = j ∧ j ≤ ts.length ∧ ∀ (i : Nat) (r : V), rs[i]? = some r → ∃ (pp : Addr) (u : Rat), r = .ref pp ∧ (xs.map (· / y))[i]? = some u ∧ NumAt T.C_Number H' pp (partQ u)) ⟨Same.new hD4, [], upd_same, rfl, Nat.zero_le _, fun i r h => by simp at h⟩ (fun j H' _ ⟨s, _⟩ => SqL.of (s _ _ hts3)) ?_ ?_
      · rintro j z H5 hz ⟨s5, rs, hrs, lrs, jl, hr5⟩
        obtain ⟨q, pp, u, rfl, hu, hq, hpp⟩ := hk3 j z hz
        have jl' : j < ts.length := (List.getElem?_eq_some_iff.mp hz).1
        refine r_gTup (s5 _ _ hq) rfl ?_
        walk_at "rdh"
        refine ⟨rfl, ?_⟩
        refine r_tyes ?_
        walk_at "rdh"
        refine ⟨rs, hrs, by rw [lrs]; exact Nat.lt_of_lt_of_le (show j < 33 by omega) (by decide), ?_, rs ++ [.ref pp], upd_same, by rw [List.length_append, lrs]; rfl, by omega, ?_⟩
        · intro c o hc
          rw [upd_ne (ne_of_none hc hD4)]
          exact s5 _ _ hc
        · intro i v hv'
          have keep : ∀ {a : Addr} {x : Rat}, NumAt T.C_Number H5 a x → NumAt T.C_Number (upd H5 D4 (.lst (rs ++ [.ref pp]))) a x := fun ⟨dx, he⟩ => ⟨dx, by rw [upd_ne (ne_of he hrs (fun z => by cases z))]; exact he⟩
          by_cases il : i < rs.length
          · rw [List.getElem?_append_left il] at hv'
            obtain ⟨pp', u', e, hu', hn'⟩ := hr5 i v hv'
            exact ⟨pp', u', e, hu', keep hn'⟩
          · have ei : i = rs.length := by
              have := (List.getElem?_eq_some_iff.mp hv').1
              rw [List.length_append, List.length_singleton] at this
              omega
            subst ei
            rw [List.getElem?_append_right (Nat.le_refl _), Nat.sub_self] at hv'
            exact ⟨pp, u, (Option.some.inj hv').symm, by rw [lrs]; exact hu, keep (hpp.same s5)⟩
      rintro H5 ⟨s5, rs, hrs, lrs, _, hr5⟩
      have s15 := (s1.trans s3).trans s5
      have hnr : NumsV T.C_Number H5 rs ((xs.map (· / y)).map partQ) := NumsV.of (by rw [List.length_map, ul, lrs, lts]; exact len) fun i v hv' => by
        obtain ⟨pp, u, e, hu, hn'⟩ := hr5 i v hv'
        exact ⟨pp, partQ u, e, by rw [List.getElem?_map, hu]; rfl, hn'⟩
      walk_at "rdh"
      refine total_at (hp.same s15) n0 (by show xs.length * 2 ≤ 64; omega) hb (Nat.le_trans bl (by decide)) fun r H6 s6 n6 => ?_
      have s16 := s15.trans s6
      walk_at "rdh"
      refine ⟨r, s', _, y, .heven, rfl, n6, hs.same s16, (Bd.sum hb).mono bl, by'.mono (by decide), yne, fun t7 H7 s7 h7 => ?_⟩
      have s17 := s16.trans s7
      have s57 := s6.trans s7
      walk_at "rdh"
      refine r_ixT h7 (atI_nat (j := 2) rfl) ?_
      walk_at "rdh"
      refine ⟨D4, rs, (xs.map (· / y)).map partQ, b + 45, rfl, s57 _ _ hrs, hnr.same s57, by rw [List.length_map, ul]; omega, fun u hu => ?_, by rw [List.length_map, ul]; exact bl2, fun p8 L H8 s8 h8 o8 => ?_⟩
      · obtain ⟨v, hv', rfl⟩ := List.mem_map.mp hu
        exact part_bd (ub v hv')
      rw [List.length_map, ul] at o8
      obtain ⟨kn, hkn⟩ := steps_left (xs := xs) (y := y)
      have s18 := s17.trans s8
      have hD28 := s8 _ _ (s57 _ _ (s5 _ _ hD2'))
      have hrs8 := s8 _ _ (s57 _ _ hrs)
      have hnr8 := hnr.same (s57.trans s8)
      walk_at "rdh"
      refine ⟨D2, _, rfl, SqL.of hD28, ?_⟩
      walk_at "rdh"
      rw [hkn]
      refine ⟨p8, _, rfl, SqL.of h8, fun g hg => ?_⟩
      rw [cut_toQ, ← List.map_take]
      have sg := Same.new (o := .lst ((L.take kn).map fun i : Nat => V.int (i : Int))) hg
      have hG := upd_same (H := H8) (a := g) (o := HO.lst ((L.take kn).map fun i : Nat => V.int (i : Int)))
      have hD29 := sg _ _ hD28
      have hrs9 := sg _ _ hrs8
      have hnr9 := hnr8.same sg
      have s19 := s18.trans sg
      generalize upd H8 g (.lst ((L.take kn).map fun i : Nat => V.int (i : Int))) = H9 at *
      generalize hG0 : L.take kn = G at *
      have fll : ((xs.map (· / y)).map Rat.floor).length = xs.length := by rw [List.length_map, ul]
      generalize hfl : (xs.map (· / y)).map Rat.floor = fl at *
      walk_at "rdh"
      refine r_lcE ?_
      walk_at "rdh"
      refine ⟨D2, fl.map V.int, rfl, SqL.of hD29, fun D9 hD9 => ?_⟩
      refine lc_enum (K := K) (a := D2) (xs := fl.map V.int) (fun j H' => Same H9 H' ∧ H' D9 = some (.lst (((List.range j).map (cntI fl G)).map V.int)) ∧ j ≤ fl.length) ⟨Same.new hD9, upd_same, Nat.zero_le _⟩ (fun j H' _ ⟨s, _⟩ => SqL.of (s _ _ hD29)) ?_ ?_
      · rintro j z t H10 hz ⟨s10, hD10, jl⟩ ht
        have jl' : j < fl.length := by
          have := (List.getElem?_eq_some_iff.mp hz).1
          rw [List.length_map] at this
          exact this
        obtain ⟨f, rfl, hf⟩ : ∃ f : Int, z = .int f ∧ fl.getD j 0 = f := by
          rw [List.getElem?_map, List.getElem?_eq_getElem jl'] at hz
          exact ⟨fl[j], (Option.some.inj hz).symm, by rw [List.getD_eq_getElem?_getD, List.getElem?_eq_getElem jl']; rfl⟩
        have st := Same.new (o := .tup [.int (j : Int), .int f]) ht
        refine r_gTup upd_same rfl ?_
        walk_at "rdh"
        refine ⟨rfl, ?_⟩
        refine r_tyes ?_
        have fin : ∃ acc, upd H10 t (.tup [.int (j : Int), .int f]) D9 = some (.lst acc) ∧ acc.length < sizeLine ∧ (Same H9 (upd (upd H10 t (.tup [.int (j : Int), .int f])) D9 (.lst (acc ++ [.int (cntI fl G j)]))) ∧ upd (upd H10 t (.tup [.int (j : Int), .int f])) D9 (.lst (acc ++ [.int (cntI fl G j)])) D9 = some (.lst (((List.range (j + 1)).map (cntI fl G)).map V.int)) ∧ j + 1 ≤ fl.length) := by
          refine ⟨_, st _ _ hD10, by rw [List.length_map, List.length_map, List.length_range]; exact Nat.lt_of_lt_of_le (show j < 33 by omega) (by decide), ?_, ?_, by omega⟩
          · intro c o hc
            rw [upd_ne (ne_of_none hc hD9)]
            exact st _ _ (s10 _ _ hc)
          · rw [upd_same, List.range_succ, List.map_append, List.map_append]
            rfl
        walk_at "rdh"
        refine ⟨g, _, rfl, .inl (SqL.of (st _ _ (s10 _ _ hG))), rfl, flat_nats _, ?_⟩
        rw [show (if false = true then !inV (.int (j : Int)) (G.map fun i : Nat => V.int (i : Int)) else inV (.int (j : Int)) (G.map fun i : Nat => V.int (i : Int))) = decide (j ∈ G) from in_nats]
        walk_at "rdh"
        refine r_ite (fun e => ?_) (fun e => ?_)
        · have ce : cntI fl G j = f + 1 := by unfold cntI; rw [if_pos (of_decide_eq_true e), hf]
          rw [ce] at fin
          walk_at "rdh"
          exact fin
        · have ce : cntI fl G j = f := by unfold cntI; rw [if_neg (of_decide_eq_false e), hf]
          rw [ce] at fin
          walk_at "rdh"
          exact fin
      · rintro H10 ⟨s10, hD10, _⟩
        rw [List.length_map, fll] at hD10
        walk_at "rdh"
        refine ⟨D9, _, rfl, .inl ⟨SqL.of hD10, fun l hl => ?_⟩⟩
        have sl := Same.new (o := .tup (((List.range xs.length).map (cntI fl G)).map V.int)) hl
        have hcs := upd_same (H := H10) (a := l) (o := HO.tup (((List.range xs.length).map (cntI fl G)).map V.int))
        generalize upd H10 l (.tup (((List.range xs.length).map (cntI fl G)).map V.int)) = H11 at *
        have s11 := s10.trans sl
        have s1_11 := s19.trans s11
        have gm : (G.map fun i : Nat => V.int (i : Int)) = (G.map fun i : Nat => (i : Int)).map V.int := by rw [List.map_map]; rfl
        have tell : ∀ (t q : Addr) (wq : Rat) (H' : Hp), Same H11 H' → H' t = some (.tup [.ref l, .ref q]) → NumAt T.C_Number H' q wq → (wq = match G.getLast? with | none => 1 | some i => (((xs.map (· / y)).map partQ).getD i 0)) → Q (.ref t) H' := fun t q wq H' s' ht hq hw => by
          refine k t l q ((List.range xs.length).map (cntI fl G)) wq L H' (s1_11.trans s') ht (s' _ _ hcs) hq o8 fun n hn' => ?_
          have : n = kn := by omega
          subst this
          rw [hG0]
          exact ⟨rfl, hw⟩
        walk_at "rdh"
        refine r_new (by show 0 ≤ 1000; decide) fun e1 he1 => ?_
        have se := Same.new (o := .lst []) he1
        refine r_eqInts (xs := G.map fun i : Nat => (i : Int)) (ys := []) (by rw [← gm]; exact SqL.of (se _ _ (s11 _ _ hG))) (SqL.of upd_same) ?_
        walk_at "rdh"
        refine r_ite (fun e => ?_) (fun e => ?_)
        · have g0 : G = [] := List.map_eq_nil_iff.mp (of_decide_eq_true e)
          subst g0
          walk_at "rdh"
          refine mk_num1 fun q H12 s12 n12 h12 => ?_
          walk_at "rdh"
          refine r_new (by show 2 ≤ 1000; decide) fun t ht => ?_
          have st := Same.new (o := .tup [.ref l, .ref q]) ht
          exact tell t q _ _ ((se.trans s12).trans st) upd_same (h12.same st) rfl
        · have g0 : G ≠ [] := fun z => by subst z; simp at e
          obtain ⟨G', i0, eG⟩ := List.eq_nil_or_concat G |>.resolve_left g0
          have eG' : G = G' ++ [i0] := by rw [eG, List.concat_eq_append]
          have i0m : i0 ∈ L := List.mem_of_mem_take (i := kn) (by rw [hG0, eG']; exact List.mem_append_right _ (List.mem_singleton.mpr rfl))
          have i0n : i0 < xs.length := o8.mem.mp i0m
          have rl : i0 < rs.length := by rw [lrs, lts]; omega
          obtain ⟨pp, u, er, hu, hn'⟩ := hr5 i0 rs[i0] (List.getElem?_eq_getElem rl)
          have s5_11 : Same H5 H11 := ((s57.trans s8).trans sg).trans s11
          walk_at "rdh"
          refine r_ixL (v := .int (i0 : Int)) (se _ _ (s11 _ _ hG)) (by rw [eG', List.map_append]; exact atI_last _ _) ?_
          refine r_ixL (v := .ref pp) (se _ _ (s5_11 _ _ hrs)) (atI_nat (by rw [List.getElem?_eq_getElem rl, er])) ?_
          walk_at "rdh"
          refine r_new (by show 2 ≤ 1000; decide) fun t ht => ?_
          have st := Same.new (o := .tup [.ref l, .ref pp]) ht
          refine tell t pp _ _ (se.trans st) upd_same (hn'.same ((s5_11.trans se).trans st)) ?_
          rw [eG', List.getLast?_append]
          show partQ u = ((xs.map (· / y)).map partQ).getD i0 0
          rw [List.getD_eq_getElem?_getD, List.getElem?_map, hu]
          rfl
end
end My

namespace My
open PySem L2
section
variable {P : Program} {w : World} {K : PySem.W.Frag} {mg : Str → Option Value} {base : Heap}
def spPutSo (C : Addr) : Sp := fun vs H Q _ => ∃ (a q : Addr) (u wq : Rat) (c : Int), vs = [.ref a, .int c, .ref q] ∧ NumAt C H a u ∧ NumAt C H q wq ∧ Bd 1000 u ∧ c.natAbs < 2 ^ 1000 ∧ Bd 1000 wq ∧ ∀ H' : Hp, Same H H' → Q (.bl (putB u c wq)) H'
theorem ok_is_put_so (T : Txt w K mg) : FnOk P w K mg base CX0 4 T.f_is_put_so T.fd_is_put_so ["steps", "count", "paper"] (spPutSo T.C_Number) := by
  refine T.F_is_put_so.ok sc_is_put_so (fun vs H Q E h => ?_) (fun cdv A outer s H vs Q E hr h => ?_)
  · obtain ⟨a, q, u, wq, c, rfl, _⟩ := h
    rfl
  · obtain ⟨a, q, u, wq, c, rfl, ⟨da, ha⟩, hq, bu, bc, bw, k⟩ := h
    have cN := T.c_Number
    have nT := T.n_Number_top
    have nB := T.n_Number_bottom
    refine ⟨_, (pss_cons (ps_set (i := 3) sc_is_put_so.nd rfl (Or.inl rfl) (pe_meth (pv 0) T.c_Number T.me_Number_less (ok_Number_less T) (hr.mono (by decide)) T.b_Number_less .nil pass0 (pa_cons (pe_make T.mk_Number (ok_Number_init T) (hr.mono (by decide)) (by rfl) T.m_Number T.b_Number_init1 T.d_Number_init1 pass0 (pa_cons (pv 1) pa_nil)) pa_nil)))
 (pss_cons (ps_if (pt_cmpR op_eq (pe_fld (pv 3) rfl) pe_int (nomark _))
  (pss_one (ps_ret pe_bl))
  pss_nil)
 (pss_cons (ps_if (pt_cmpR op_gt (pe_fld (pv 3) rfl) pe_int (nomark _))
  (pss_one (ps_ret (pe_and (pe_meth (pv 3) T.c_Number T.me_Number_below (ok_Number_below T) (hr.mono (by decide)) T.b_Number_below .nil pass0 (pa_cons (pe_make T.mk_Number (ok_Number_init T) (hr.mono (by decide)) (by rfl) T.m_Number T.b_Number_init1 T.d_Number_init1 pass0 (pa_cons pe_int pa_nil)) pa_nil)) (pe_one (pe_not (pe_meth (pv 2) T.c_Number T.me_Number_below (ok_Number_below T) (hr.mono (by decide)) T.b_Number_below .nil pass0 (pa_cons (pv 3) pa_nil)))))))
  pss_nil)
 (pss_cons (ps_set (i := 4) sc_is_put_so.nd rfl (Or.inl rfl) (pe_meth (pv 3) T.c_Number T.me_Number_more (ok_Number_more T) (hr.mono (by decide)) T.b_Number_more .nil pass0 (pa_cons (pe_make T.mk_Number (ok_Number_init T) (hr.mono (by decide)) (by rfl) T.m_Number T.b_Number_init1 T.d_Number_init1 pass0 (pa_cons pe_int pa_nil)) pa_nil)))
 (pss_one (ps_ret (pe_and (pe_cmpR op_gt (pe_fld (pv 4) rfl) pe_int (nomark _)) (pe_one (pe_not (pe_meth (pv 4) T.c_Number T.me_Number_below (ok_Number_below T) (hr.mono (by decide)) T.b_Number_below .nil pass0 (pa_cons (pv 2) pa_nil))))))))))), ?_⟩
    have bci : Bd 1000 (c : Rat) := Bd.int bc (by decide)
    have b1 : Bd 1 ((1 : Int) : Rat) := Bd.int (by decide) (by decide)
    walk_at "rdh"
    refine r_meth1 ha (no_less _) ?_
    walk_at "rdh"
    refine mk_num1 fun n H1 s1 n1 h1 => ?_
    walk_at "rdh"
    refine ⟨a, n, u, _, rfl, ⟨_, s1 _ _ ha⟩, h1, bu.mono (by decide), bci.mono (by decide), trivial, fun o H2 s2 n2 h2 => ?_⟩
    have h2' : NumAt T.C_Number H2 o (u - (c : Rat)) := h2
    have bo : Bd 2001 (u - (c : Rat)) := Bd.sub bu bci
    obtain ⟨d2, e2⟩ := h2'
    have s12 := s1.trans s2
    unfold putB at k
    walk_at "rdf"
    refine r_ite (fun e => ?_) (fun e => ?_)
    · rw [if_pos (of_decide_eq_true e)] at k
      walk_at "rdh"
      exact k _ s12
    rw [if_neg (of_decide_eq_false e)] at k
    walk_at "rdf"
    refine r_ite (fun e1 => ?_) (fun e1 => ?_)
    · rw [if_pos (of_decide_eq_true e1)] at k
      walk_at "rdh"
      refine r_meth1 e2 (no_below _) ?_
      walk_at "rdh"
      refine mk_num1 fun m H3 s3 n3 h3 => ?_
      walk_at "rdh"
      refine ⟨o, m, _, _, rfl, ⟨_, s3 _ _ e2⟩, h3, bo.mono (by decide), b1.mono (by decide), ?_⟩
      have s13 := s12.trans s3
      have e11 : ((1 : Int) : Rat) = 1 := rfl
      rw [e11]
      walk_at "rdh"
      refine r_ite (fun e4 => ?_) (fun e4 => ?_)
      · rw [e4, Bool.true_and] at k
        obtain ⟨dq, eq'⟩ := hq.same s13
        walk_at "rdh"
        refine r_meth1 eq' (no_below _) ?_
        walk_at "rdh"
        refine ⟨q, o, _, _, rfl, ⟨_, eq'⟩, ⟨_, s3 _ _ e2⟩, bw.mono (by decide), bo.mono (by decide), ?_⟩
        walk_at "rdh"
        exact k _ s13
      · rw [e4, Bool.false_and] at k
        exact k _ s13
    · rw [if_neg (of_decide_eq_false e1)] at k
      walk_at "rdh"
      refine r_meth1 e2 (no_more _) ?_
      walk_at "rdh"
      refine mk_num1 fun m H3 s3 n3 h3 => ?_
      walk_at "rdh"
      refine ⟨o, m, _, _, rfl, ⟨_, s3 _ _ e2⟩, h3, bo.mono (by decide), b1.mono (by decide), trivial, fun v H4 s4 n4 h4 => ?_⟩
      have h4' : NumAt T.C_Number H4 v (u - (c : Rat) + 1) := h4
      have bv : Bd 2003 (u - (c : Rat) + 1) := (Bd.add bo b1)
      obtain ⟨d4, e4⟩ := h4'
      have s14 := (s12.trans s3).trans s4
      walk_at "rdf"
      refine r_ite (fun e5 => ?_) (fun e5 => ?_)
      · rw [e5, Bool.true_and] at k
        walk_at "rdh"
        refine r_meth1 e4 (no_below _) ?_
        walk_at "rdh"
        refine ⟨v, q, _, _, rfl, ⟨_, e4⟩, hq.same s14, bv.mono (by decide), bw.mono (by decide), ?_⟩
        walk_at "rdh"
        exact k _ s14
      · rw [e5, Bool.false_and] at k
        exact k _ s14
def spIsRounded (C : Addr) : Sp := fun vs H Q _ => ∃ (a : Addr) (u : Rat) (c : Int), vs = [.ref a, .int c] ∧ NumAt C H a u ∧ Bd 2400 u ∧ c.natAbs < 2 ^ 2400 ∧ Q (.bl (roundB u c)) H
theorem ok_is_rounded (T : Txt w K mg) : FnOk P w K mg base CX0 1 T.f_is_rounded T.fd_is_rounded ["steps", "total"] (spIsRounded T.C_Number) := by
  refine T.F_is_rounded.ok sc_is_rounded (fun vs H Q E h => ?_) (fun cdv A outer s H vs Q E hr h => ?_)
  · obtain ⟨a, u, c, rfl, _⟩ := h
    rfl
  · obtain ⟨a, u, c, rfl, ⟨da, ha⟩, bu, bc, k⟩ := h
    have cN := T.c_Number
    have nT := T.n_Number_top
    have nB := T.n_Number_bottom
    refine ⟨_, (pss_cons (ps_set (i := 2) sc_is_rounded.nd rfl (Or.inl rfl) (pe_op op_mul pe_int (pe_callB call_abs (by rfl) T.n_abs (by decide +kernel) (pa_cons (pe_op op_sub (pe_fld (pv 0) rfl) (pe_op op_mulW (pv 1) (pe_fld (pv 0) rfl))) pa_nil))))
 (pss_cons (ps_if (pt_cmpR op_eq (pv 2) (pe_fld (pv 0) rfl) (nomark _))
  (pss_one (ps_ret (pe_cmpR op_eq (pe_op op_mod (pv 1) pe_int) pe_int (nomark _))))
  pss_nil)
 (pss_one (ps_ret (pe_cmpR op_lt (pv 2) (pe_fld (pv 0) rfl) (nomark _)))))), ?_⟩
    unfold roundB at k
    have db : ((u.den : Nat) : Int).natAbs < 2 ^ 2400 := by rw [Int.natAbs_natCast]; exact bu.2
    walk_at "rdf"
    refine r_I (wide_mul (a := 2400) (b := 2400) bc db (by decide) (by decide) (by decide)) ?_
    walk_at "rdf"
    refine ⟨_, rfl, ?_⟩
    have ab : ∀ z : Int, (if z < 0 then -z else z) = (z.natAbs : Int) := fun z => by split <;> omega
    rw [ab]
    walk_at "rdf"
    refine r_ite (fun e => ?_) (fun e => ?_)
    · rw [if_pos (of_decide_eq_true e)] at k
      walk_at "rdh"
      exact k
    · rw [if_neg (of_decide_eq_false e)] at k
      walk_at "rdf"
      exact k
end
end My

namespace My
open PySem L2
section
variable {P : Program} {w : World} {K : PySem.W.Frag} {mg : Str → Option Value} {base : Heap}
/-! ### a well -/
def WellAt (H : Hp) (d : Addr) : Prop := ∃ a b n : Int, H d = some (.lst [.int a, .int b, .int n])
theorem WellAt.same {H H' : Hp} {d : Addr} (s : Same H H') (h : WellAt H d) : WellAt H' d := let ⟨a, b, n, h1⟩ := h; ⟨a, b, n, s _ _ h1⟩
/-! heaps but for one place -/
def Out (d : Addr) (H H' : Hp) : Prop := ∀ b o, b ≠ d → H b = some o → H' b = some o
theorem Out.refl (d : Addr) (H : Hp) : Out d H H := fun _ _ _ h => h
theorem Out.trans {d : Addr} {H H1 H2 : Hp} (a : Out d H H1) (b : Out d H1 H2) : Out d H H2 := fun x o h1 h => b x o h1 (a x o h1 h)
theorem Out.of {d : Addr} {H H' : Hp} (a : Same H H') : Out d H H' := fun x o _ h => a x o h
theorem Out.keep {H H' : Hp} {d b : Addr} {o : HO} (s : Out d H H') (hd : WellAt H d) (h : H b = some o) (hn : ∀ xs, o ≠ .lst xs) : H' b = some o := by
  obtain ⟨_, _, _, h1⟩ := hd
  exact s b o (ne_of h h1 (hn _)) h
theorem well_ne {H : Hp} {d p : Addr} (h : WellAt H d) (hp : H p = none) : p ≠ d := by
  obtain ⟨_, _, _, h1⟩ := h
  exact (ne_of_none h1 hp).symm
theorem well_ix {ns : List Int} {k : Nat} (h : (k : Int) < ((ns.map V.int).length : Int)) : ∃ c : Int, atI (ns.map V.int) (k : Int) = some (.int c) := by
  have hk : k < ns.length := by rw [List.length_map] at h; omega
  exact ⟨ns[k], atI_nat (by rw [List.getElem?_map, List.getElem?_eq_getElem hk]; rfl)⟩
def spWell (K : PySem.W.Frag) : Sp := fun vs H Q _ => ∃ (a : Addr) (ns : List Int) (k : Nat), vs = [.ref a, .int k] ∧ SqL K H a (ns.map V.int) ∧ ∀ (d : Addr) (H' : Hp), Same H H' → H d = none → WellAt H' d → Q (.ref d) H'
theorem ok_l_well (T : Txt w K mg) : FnOk P w K mg base CX0 1 T.f_l_well T.fd_l_well ["_law_script", "_law_k"] (spWell K) := by
  refine T.F_l_well.ok sc_l_well (fun vs H Q E h => ?_) (fun cdv A outer s H vs Q E hr h => ?_)
  · obtain ⟨a, ns, j, rfl, _⟩ := h
    rfl
  · obtain ⟨a, ns, j, rfl, hS, k⟩ := h
    refine ⟨_, (pss_cons (ps_set (i := 2) sc_l_well.nd rfl (Or.inl rfl) pe_int)
 (pss_cons (ps_if (pt_cmpR op_lt (pv 1) (pe_callB call_len_seq (by rfl) T.n_len PySem.boot_len (pa_cons (pv 0) pa_nil)) (nomark _))
  (pss_one (ps_set (i := 2) sc_l_well.nd rfl (Or.inl rfl) (pe_ix ix_list (pv 0) (pv 1) (fun _ _ => rfl))))
  pss_nil)
 (pss_one (ps_ret (pe_lst (pa_cons (pe_op op_mul (pv 2) (pe_callTy call_int1 (by rfl) T.n_int (by decide +kernel) (pa_cons (pe_cmpR op_ge (pv 2) (pe_op op_pow pe_int pe_int) (nomark _)) pa_nil))) (pa_cons (pe_op op_add (pe_op op_mod (pv 2) pe_int) (pe_op op_mul pe_int (pv 1))) (pa_cons pe_int pa_nil)))))))), ?_⟩
    walk_at "rdg"
    refine ⟨a, _, rfl, .inl hS, ?_⟩
    walk_at "rdg"
    refine r_ite (fun e => ?_) (fun e => ?_)
    · obtain ⟨c, hc⟩ := well_ix (of_decide_eq_true e)
      walk_at "rdg"
      refine ⟨a, _, _, _, rfl, rfl, hS, hc, ?_⟩
      walk_at "rdg"
      refine .inr ⟨_, rfl, ?_⟩
      refine r_I (.inr (by split <;> decide)) ?_
      walk_at "rdg"
      refine r_new (by show 3 ≤ 1000; decide) fun d hd => ?_
      exact k d _ (Same.new hd) hd ⟨_, _, _, upd_same⟩
    · walk_at "rdg"
      refine .inr ⟨_, rfl, ?_⟩
      refine r_I (.inr (by split <;> decide)) ?_
      walk_at "rdg"
      refine r_new (by show 3 ≤ 1000; decide) fun d hd => ?_
      exact k d _ (Same.new hd) hd ⟨_, _, _, upd_same⟩
/-! ### a take -/
def spTake : Sp := fun vs H Q _ => ∃ (d : Addr) (v : Int), vs = [.ref d, .int v] ∧ WellAt H d ∧ 0 < v ∧ v.natAbs < 2 ^ 9000 ∧ ∀ (r : Int) (H' : Hp), Out d H H' → WellAt H' d → 0 ≤ r → r < v → Q (.int r) H'
theorem ok_l_take (T : Txt w K mg) : FnOk P w K mg base CX0 1 T.f_l_take T.fd_l_take ["_law_well_here", "_law_top"] spTake := by
  refine T.F_l_take.ok sc_l_take (fun vs H Q E h => ?_) (fun cdv A outer s H vs Q E hr h => ?_)
  · obtain ⟨d, v, rfl, _⟩ := h
    rfl
  · obtain ⟨d, v, rfl, ⟨a, b, n, hd⟩, v0, vb, k⟩ := h
    refine ⟨_, (pss_cons (ps_if (pt_cmpR op_gt (pe_ix ix_list (pv 0) pe_int (fun _ _ => rfl)) pe_int (nomark _))
  (pss_cons (ps_set (i := 2) sc_l_take.nd rfl (Or.inl rfl) (pe_op op_mod (pe_ix ix_list (pv 0) pe_int (fun _ _ => rfl)) (pv 1)))
 (pss_cons (ps_asg (pe_op op_fdivW (pe_ix ix_list (pv 0) pe_int (fun _ _ => rfl)) (pv 1)) (pg_sub (pv 0) pe_int set_list))
 (pss_one (ps_ret (pv 2)))))
  pss_nil)
 (pss_cons (ps_asg (pe_op op_add (pe_ix ix_list (pv 0) pe_int (fun _ _ => rfl)) pe_int) (pg_sub (pv 0) pe_int set_list))
 (pss_cons (ps_set (i := 3) sc_l_take.nd rfl (Or.inl rfl) (pe_op op_mod (pe_op op_mul (pe_op op_add (pe_op op_add (pe_ix ix_list (pv 0) pe_int (fun _ _ => rfl)) (pe_op op_mul pe_int (pe_ix ix_list (pv 0) pe_int (fun _ _ => rfl)))) pe_int) pe_int) pe_int))
 (pss_cons (ps_set (i := 3) sc_l_take.nd rfl (Or.inl rfl) (pe_op op_mod (pe_op op_add (pe_op op_mulW (pv 3) (pv 3)) (pe_op op_mul pe_int (pe_ix ix_list (pv 0) pe_int (fun _ _ => rfl)))) pe_int))
 (pss_cons (ps_set (i := 3) sc_l_take.nd rfl (Or.inl rfl) (pe_op op_add (pe_op op_mul (pe_op op_mod (pe_op op_mulW (pv 3) (pe_op op_add (pv 3) pe_int)) pe_int) pe_int) (pv 3)))
 (pss_one (ps_ret (pe_op op_mod (pe_op op_fdiv (pe_op op_mod (pe_op op_mul (pv 3) pe_int) pe_int) pe_int) (pv 1))))))))), ?_⟩
    have pmod : ∀ x : Int, 0 ≤ x % v ∧ x % v < v := fun x => ⟨Int.emod_nonneg _ (by omega), Int.emod_lt_of_pos _ v0⟩
    have o1 : ∀ u : HO, Out d H (upd H d u) := fun u b o h1 h => by rw [upd_ne h1]; exact h
    walk_at "rdg"
    refine r_ixL hd (atI_nat (j := 0) rfl) ?_
    walk_at "rdg"
    refine r_ite (fun e => ?_) (fun e => ?_)
    · walk_at "rdg"
      refine r_ixL hd (atI_nat (j := 0) rfl) ?_
      walk_at "rdg"
      refine r_I v0 ?_
      walk_at "rdg"
      refine r_ixL hd (atI_nat (j := 0) rfl) ?_
      walk_at "rdg"
      refine r_I (wide_div v0 vb (by decide) (Nat.le_refl _)) ?_
      walk_at "rdg"
      refine r_setL hd (j := 0) rfl ?_
      walk_at "rdg"
      exact k _ _ (o1 _) ⟨_, _, _, upd_same⟩ (pmod _).1 (pmod _).2
    · walk_at "rdg"
      refine r_ixL hd (atI_nat (j := 2) rfl) ?_
      walk_at "rdg"
      refine r_setL hd (j := 2) rfl ?_
      have hd1 : (upd H d (.lst [.int a, .int b, .int (n + 1)])) d = some (.lst [.int a, .int b, .int (n + 1)]) := upd_same
      have o2 := o1 (.lst [.int a, .int b, .int (n + 1)])
      show (_ : TS) _ _ (upd H d (.lst [.int a, .int b, .int (n + 1)]))
      generalize (upd H d (.lst [.int a, .int b, .int (n + 1)])) = H1 at *
      walk_at "rdg"
      refine r_ixL hd1 (atI_nat (j := 1) rfl) ?_
      walk_at "rdg"
      refine r_ixL hd1 (atI_nat (j := 2) rfl) ?_
      walk_at "rdg"
      have m1 : ∀ x : Int, (x % 2147483647).natAbs < 2 ^ 31 := fun x => by have := @Int.emod_nonneg x 2147483647 (by decide); have := Int.emod_lt_of_pos x (show (0 : Int) < 2147483647 by decide); omega
      have m2 : ∀ x : Int, (x % 2147483587).natAbs < 2 ^ 31 := fun x => by have := @Int.emod_nonneg x 2147483587 (by decide); have := Int.emod_lt_of_pos x (show (0 : Int) < 2147483587 by decide); omega
      have m3 : ∀ x : Int, (x % 2147483587 + 16807).natAbs < 2 ^ 32 := fun x => by have := @Int.emod_nonneg x 2147483587 (by decide); have := Int.emod_lt_of_pos x (show (0 : Int) < 2147483587 by decide); omega
      refine r_I (wide_mul (a := 31) (b := 31) (m1 _) (m1 _) (by decide) (by decide) (by decide)) ?_
      walk_at "rdg"
      refine r_ixL hd1 (atI_nat (j := 2) rfl) ?_
      walk_at "rdg"
      refine r_I (wide_mul (a := 31) (b := 32) (m2 _) (m3 _) (by decide) (by decide) (by decide)) ?_
      walk_at "rdg"
      refine r_I v0 ?_
      exact k _ _ o2 ⟨_, _, _, hd1⟩ (pmod _).1 (pmod _).2
/-- a take, as it is read -/
theorem rd_take {H : Hp} {d : Addr} {v : Int} {Q : VK} {E : XK} (dk : WellAt H d) (h0 : 0 < v) (h1 : v.natAbs < 2 ^ 200) (q : ∀ (r : Int) (H' : Hp), Out d H H' → WellAt H' d → 0 ≤ r → r < v → Q (.int r) H') : spTake ([V.ref d, V.int v] ++ []) H Q E :=
  ⟨d, v, rfl, dk, h0, Nat.lt_of_lt_of_le h1 (Nat.pow_le_pow_right (by decide) (by decide)), q⟩
end
end My

namespace My
open PySem L2
/-! ### lists of tuples of whole numbers -/
def TupsV {α : Type} (f : α → List V) (H : Hp) (vs : List V) (xs : List α) : Prop := vs.length = xs.length ∧ ∀ (i : Nat) (v : V), vs[i]? = some v → ∃ (q : Addr) (x : α), v = .ref q ∧ xs[i]? = some x ∧ H q = some (.tup (f x))
theorem TupsV.same {α : Type} {f : α → List V} {H H' : Hp} {vs : List V} {xs : List α} (s : Same H H') (h : TupsV f H vs xs) : TupsV f H' vs xs := ⟨h.1, fun i v hv =>
  let ⟨q, x, e, ex, hq⟩ := h.2 i v hv
  ⟨q, x, e, ex, s _ _ hq⟩⟩
theorem TupsV.put {α : Type} {f : α → List V} {H : Hp} {vs us : List V} {xs : List α} {D : Addr} (hD : H D = some (.lst us)) {o : HO} (h : TupsV f H vs xs) : TupsV f (upd H D o) vs xs := ⟨h.1, fun i v hv =>
  let ⟨q, x, e, ex, hq⟩ := h.2 i v hv
  ⟨q, x, e, ex, by rw [upd_ne (ne_of hq hD (fun z => by cases z))]; exact hq⟩⟩
theorem TupsV.push {α : Type} {f : α → List V} {H : Hp} {vs : List V} {xs : List α} {q : Addr} {x : α} (h : TupsV f H vs xs) (hq : H q = some (.tup (f x))) : TupsV f H (vs ++ [.ref q]) (xs ++ [x]) := ⟨by rw [List.length_append, List.length_append, h.1]; rfl, fun i v hv => by
  by_cases il : i < vs.length
  · rw [List.getElem?_append_left il] at hv
    obtain ⟨q', x', e, ex, hq'⟩ := h.2 i v hv
    exact ⟨q', x', e, by rw [List.getElem?_append_left (by rw [← h.1]; exact il)]; exact ex, hq'⟩
  · have ei : i = vs.length := by
      have := (List.getElem?_eq_some_iff.mp hv).1
      rw [List.length_append, List.length_singleton] at this
      omega
    subst ei
    rw [List.getElem?_append_right (Nat.le_refl _), Nat.sub_self] at hv
    exact ⟨q, x, (Option.some.inj hv).symm, by rw [h.1, List.getElem?_append_right (Nat.le_refl _), Nat.sub_self]; rfl, hq⟩⟩
theorem TupsV.nil {α : Type} {f : α → List V} {H : Hp} : TupsV f H [] ([] : List α) := ⟨rfl, fun i v hv => by simp at hv⟩
abbrev pr (p : Int × Int) : List V := [.int p.1, .int p.2]
abbrev tri (p : Int × Int × Int) : List V := [.int p.1, .int p.2.1, .int p.2.2]
def PairsAt (H : Hp) (p : Addr) (ps : List (Int × Int)) : Prop := ∃ vs, H p = some (.lst vs) ∧ TupsV pr H vs ps
theorem PairsAt.same {H H' : Hp} {p : Addr} {ps : List (Int × Int)} (s : Same H H') (h : PairsAt H p ps) : PairsAt H' p ps := let ⟨vs, a, b⟩ := h; ⟨vs, s _ _ a, b.same s⟩
def RowsAt (H : Hp) (p : Addr) (rs : List (Int × Int × Int)) : Prop := ∃ vs, H p = some (.lst vs) ∧ TupsV tri H vs rs
theorem RowsAt.same {H H' : Hp} {p : Addr} {rs : List (Int × Int × Int)} (s : Same H H') (h : RowsAt H p rs) : RowsAt H' p rs := let ⟨vs, a, b⟩ := h; ⟨vs, s _ _ a, b.same s⟩
/-- a step: above 0, not great -/
def StepAt (H : Hp) (p : Addr) (st sb : Int) : Prop := H p = some (.tup [.int st, .int sb]) ∧ (0 < st ∧ st ≤ 10 ^ 12) ∧ (0 < sb ∧ sb ≤ 10 ^ 12)
theorem StepAt.same {H H' : Hp} {p : Addr} {st sb : Int} (s : Same H H') (h : StepAt H p st sb) : StepAt H' p st sb := ⟨s _ _ h.1, h.2⟩
section
variable {P : Program} {w : World} {K : PySem.W.Frag} {mg : Str → Option Value} {base : Heap}
def spStep : Sp := fun vs H Q _ => ∃ d : Addr, vs = [.ref d] ∧ WellAt H d ∧ ∀ (p : Addr) (st sb : Int) (H' : Hp), Out d H H' → WellAt H' d → StepAt H' p st sb → (st ≤ 10 ^ 6 ∧ sb ≤ 10 ^ 6) → Q (.ref p) H'
theorem ok_l_step (T : Txt w K mg) : FnOk P w K mg base CX0 2 T.f_l_step T.fd_l_step ["_law_well_here"] spStep := by
  refine T.F_l_step.ok sc_l_step (fun vs H Q E h => ?_) (fun cdv A outer s H vs Q E hr h => ?_)
  · obtain ⟨d, rfl, _⟩ := h
    rfl
  · obtain ⟨d, rfl, w0, k⟩ := h
    refine ⟨_, (pss_cons (ps_set (i := 1) sc_l_step.nd rfl (Or.inl rfl) (pe_lst (pa_cons (pe_tup (pa_cons pe_int (pa_cons pe_int pa_nil))) (pa_cons (pe_tup (pa_cons pe_int (pa_cons pe_int pa_nil))) (pa_cons (pe_tup (pa_cons pe_int (pa_cons pe_int pa_nil))) (pa_cons (pe_tup (pa_cons pe_int (pa_cons pe_int pa_nil))) (pa_cons (pe_tup (pa_cons pe_int (pa_cons pe_int pa_nil))) (pa_cons (pe_tup (pa_cons pe_int (pa_cons pe_int pa_nil))) (pa_cons (pe_tup (pa_cons pe_int (pa_cons pe_int pa_nil))) (pa_cons (pe_tup (pa_cons pe_int (pa_cons pe_int pa_nil))) (pa_cons (pe_tup (pa_cons (pe_op op_pow pe_int pe_int) (pa_cons pe_int pa_nil))) (pa_cons (pe_tup (pa_cons pe_int (pa_cons (pe_op op_pow pe_int pe_int) pa_nil))) pa_nil))))))))))))
 (pss_one (ps_ret (pe_ix ix_list (pv 1) (pe_call (ok_l_take T) (hr.mono (by decide)) (by rfl) T.m_l_take T.F_l_take.kp T.b_l_take .nil pass0 (pa_cons (pv 0) (pa_cons pe_int pa_nil))) (fun _ _ => rfl))))), ?_⟩
    have E6 : (10 : Int) ^ (6 : Int).toNat = 1000000 := rfl
    have E6' : (10 : Int) ^ 6 = 1000000 := rfl
    have E12' : (10 : Int) ^ 12 = 1000000000000 := rfl
    walk_at "rdg"
    refine r_new (by show 2 ≤ 1000; decide) fun a0 h0 => ?_
    have s0 := Same.new (o := .tup [.int 1, .int 1]) h0
    have e0 := upd_same (H := H) (a := a0) (o := HO.tup [.int 1, .int 1])
    generalize upd H a0 (.tup [.int 1, .int 1]) = H0 at *
    walk_at "rdg"
    refine r_new (by show 2 ≤ 1000; decide) fun a1 h1 => ?_
    have s1 := Same.new (o := .tup [.int 1, .int 10]) h1
    have e1 := upd_same (H := H0) (a := a1) (o := HO.tup [.int 1, .int 10])
    generalize upd H0 a1 (.tup [.int 1, .int 10]) = H1 at *
    walk_at "rdg"
    refine r_new (by show 2 ≤ 1000; decide) fun a2 h2 => ?_
    have s2 := Same.new (o := .tup [.int 1, .int 100]) h2
    have e2 := upd_same (H := H1) (a := a2) (o := HO.tup [.int 1, .int 100])
    generalize upd H1 a2 (.tup [.int 1, .int 100]) = H2 at *
    walk_at "rdg"
    refine r_new (by show 2 ≤ 1000; decide) fun a3 h3 => ?_
    have s3 := Same.new (o := .tup [.int 1, .int 4]) h3
    have e3 := upd_same (H := H2) (a := a3) (o := HO.tup [.int 1, .int 4])
    generalize upd H2 a3 (.tup [.int 1, .int 4]) = H3 at *
    walk_at "rdg"
    refine r_new (by show 2 ≤ 1000; decide) fun a4 h4 => ?_
    have s4 := Same.new (o := .tup [.int 5, .int 1]) h4
    have e4 := upd_same (H := H3) (a := a4) (o := HO.tup [.int 5, .int 1])
    generalize upd H3 a4 (.tup [.int 5, .int 1]) = H4 at *
    walk_at "rdg"
    refine r_new (by show 2 ≤ 1000; decide) fun a5 h5 => ?_
    have s5 := Same.new (o := .tup [.int 25, .int 1]) h5
    have e5 := upd_same (H := H4) (a := a5) (o := HO.tup [.int 25, .int 1])
    generalize upd H4 a5 (.tup [.int 25, .int 1]) = H5 at *
    walk_at "rdg"
    refine r_new (by show 2 ≤ 1000; decide) fun a6 h6 => ?_
    have s6 := Same.new (o := .tup [.int 1, .int 3]) h6
    have e6 := upd_same (H := H5) (a := a6) (o := HO.tup [.int 1, .int 3])
    generalize upd H5 a6 (.tup [.int 1, .int 3]) = H6 at *
    walk_at "rdg"
    refine r_new (by show 2 ≤ 1000; decide) fun a7 h7 => ?_
    have s7 := Same.new (o := .tup [.int 7, .int 2]) h7
    have e7 := upd_same (H := H6) (a := a7) (o := HO.tup [.int 7, .int 2])
    generalize upd H6 a7 (.tup [.int 7, .int 2]) = H7 at *
    walk_at "rdg"
    rw [E6]
    refine r_new (by show 2 ≤ 1000; decide) fun a8 h8 => ?_
    have s8 := Same.new (o := .tup [.int 1000000, .int 1]) h8
    have e8 := upd_same (H := H7) (a := a8) (o := HO.tup [.int 1000000, .int 1])
    generalize upd H7 a8 (.tup [.int 1000000, .int 1]) = H8 at *
    walk_at "rdg"
    rw [E6]
    refine r_new (by show 2 ≤ 1000; decide) fun a9 h9 => ?_
    have s9 := Same.new (o := .tup [.int 1, .int 1000000]) h9
    have e9 := upd_same (H := H8) (a := a9) (o := HO.tup [.int 1, .int 1000000])
    generalize upd H8 a9 (.tup [.int 1, .int 1000000]) = H9 at *
    walk_at "rdg"
    refine r_new (by show 10 ≤ 1000; decide) fun l hl => ?_
    have sl := Same.new (o := .lst [.ref a0, .ref a1, .ref a2, .ref a3, .ref a4, .ref a5, .ref a6, .ref a7, .ref a8, .ref a9]) hl
    have el := upd_same (H := H9) (a := l) (o := HO.lst [.ref a0, .ref a1, .ref a2, .ref a3, .ref a4, .ref a5, .ref a6, .ref a7, .ref a8, .ref a9])
    generalize upd H9 l (.lst [.ref a0, .ref a1, .ref a2, .ref a3, .ref a4, .ref a5, .ref a6, .ref a7, .ref a8, .ref a9]) = HL at *
    have sA := ((((((((((s0).trans s1).trans s2).trans s3).trans s4).trans s5).trans s6).trans s7).trans s8).trans s9).trans sl
    have lw : l ≠ d := fun z => by rw [z] at hl; obtain ⟨_, _, _, hw⟩ := w0.same ((((((((((s0).trans s1).trans s2).trans s3).trans s4).trans s5).trans s6).trans s7).trans s8).trans s9); rw [hw] at hl; cases hl
    walk_at "rdg"
    refine rd_take (w0.same sA) (by decide) (by decide) fun r HT oT wT r0 r1 => ?_
    have oA := (Out.of sA).trans oT
    have elT := oT l _ lw el
    have kp : ∀ {a : Addr} {o : List V}, HL a = some (.tup o) → HT a = some (.tup o) := fun {a o} h => oT.keep (w0.same sA) h (fun xs z => by cases z)
    by_cases z0 : r = 0
    · subst z0
      exact r_ixL elT (atI_nat (j := 0) rfl) (k a0 1 1 HT oA wT ⟨kp (((((((((((s1).trans s2).trans s3).trans s4).trans s5).trans s6).trans s7).trans s8).trans s9).trans sl) _ _ e0), by omega, by omega⟩ (by omega))
    by_cases z1 : r = 1
    · subst z1
      exact r_ixL elT (atI_nat (j := 1) rfl) (k a1 1 10 HT oA wT ⟨kp ((((((((((s2).trans s3).trans s4).trans s5).trans s6).trans s7).trans s8).trans s9).trans sl) _ _ e1), by omega, by omega⟩ (by omega))
    by_cases z2 : r = 2
    · subst z2
      exact r_ixL elT (atI_nat (j := 2) rfl) (k a2 1 100 HT oA wT ⟨kp (((((((((s3).trans s4).trans s5).trans s6).trans s7).trans s8).trans s9).trans sl) _ _ e2), by omega, by omega⟩ (by omega))
    by_cases z3 : r = 3
    · subst z3
      exact r_ixL elT (atI_nat (j := 3) rfl) (k a3 1 4 HT oA wT ⟨kp ((((((((s4).trans s5).trans s6).trans s7).trans s8).trans s9).trans sl) _ _ e3), by omega, by omega⟩ (by omega))
    by_cases z4 : r = 4
    · subst z4
      exact r_ixL elT (atI_nat (j := 4) rfl) (k a4 5 1 HT oA wT ⟨kp (((((((s5).trans s6).trans s7).trans s8).trans s9).trans sl) _ _ e4), by omega, by omega⟩ (by omega))
    by_cases z5 : r = 5
    · subst z5
      exact r_ixL elT (atI_nat (j := 5) rfl) (k a5 25 1 HT oA wT ⟨kp ((((((s6).trans s7).trans s8).trans s9).trans sl) _ _ e5), by omega, by omega⟩ (by omega))
    by_cases z6 : r = 6
    · subst z6
      exact r_ixL elT (atI_nat (j := 6) rfl) (k a6 1 3 HT oA wT ⟨kp (((((s7).trans s8).trans s9).trans sl) _ _ e6), by omega, by omega⟩ (by omega))
    by_cases z7 : r = 7
    · subst z7
      exact r_ixL elT (atI_nat (j := 7) rfl) (k a7 7 2 HT oA wT ⟨kp ((((s8).trans s9).trans sl) _ _ e7), by omega, by omega⟩ (by omega))
    by_cases z8 : r = 8
    · subst z8
      exact r_ixL elT (atI_nat (j := 8) rfl) (k a8 1000000 1 HT oA wT ⟨kp (((s9).trans sl) _ _ e8), by omega, by omega⟩ (by omega))
    by_cases z9 : r = 9
    · subst z9
      exact r_ixL elT (atI_nat (j := 9) rfl) (k a9 1 1000000 HT oA wT ⟨kp ((sl) _ _ e9), by omega, by omega⟩ (by omega))
    exact absurd r1 (by omega)
end
end My

namespace My
open PySem L2
/-! ### things of any kind, own objects among them -/
inductive Tg where
  | non
  | bl (b : Bool)
  | int (i : Int)
  | str (z : Str)
  | num (x : Rat)
  | tup (ts : List Tg)
  | lst (ts : List Tg)
  | dct
mutual
inductive TgAt (C d : Addr) (H : Hp) : V → Tg → Prop where
  | non : TgAt C d H .non .non
  | bl (b : Bool) : TgAt C d H (.bl b) (.bl b)
  | int (i : Int) : TgAt C d H (.int i) (.int i)
  | str (z : Str) : TgAt C d H (.str z) (.str z)
  | num {p : Addr} {x : Rat} : NumAt C H p x → TgAt C d H (.ref p) (.num x)
  | tup {p : Addr} {vs : List V} {ts : List Tg} : H p = some (.tup vs) → TgAll C d H vs ts → TgAt C d H (.ref p) (.tup ts)
  | lst {p : Addr} {vs : List V} {ts : List Tg} : p ≠ d → H p = some (.lst vs) → TgAll C d H vs ts → TgAt C d H (.ref p) (.lst ts)
  | dct {p : Addr} : H p = some (.dK []) → TgAt C d H (.ref p) .dct
inductive TgAll (C d : Addr) (H : Hp) : List V → List Tg → Prop where
  | nil : TgAll C d H [] []
  | cons {v : V} {x : Tg} {vs : List V} {ts : List Tg} : TgAt C d H v x → TgAll C d H vs ts → TgAll C d H (v :: vs) (x :: ts)
end
mutual
theorem TgAt.same {C d : Addr} {H H' : Hp} (s : Same H H') : ∀ {v : V} {x : Tg}, TgAt C d H v x → TgAt C d H' v x
  | _, _, .non => .non
  | _, _, .bl b => .bl b
  | _, _, .int b => .int b
  | _, _, .str b => .str b
  | _, _, .num h => .num (h.same s)
  | _, _, .tup h a => .tup (s _ _ h) (TgAll.same s a)
  | _, _, .lst n h a => .lst n (s _ _ h) (TgAll.same s a)
  | _, _, .dct h => .dct (s _ _ h)
theorem TgAll.same {C d : Addr} {H H' : Hp} (s : Same H H') : ∀ {vs : List V} {xs : List Tg}, TgAll C d H vs xs → TgAll C d H' vs xs
  | _, _, .nil => .nil
  | _, _, .cons a b => .cons (TgAt.same s a) (TgAll.same s b)
end
theorem NumAt.out {C : Addr} {H H' : Hp} {d p : Addr} {x : Rat} (o : Out d H H') (w : WellAt H d) (h : NumAt C H p x) : NumAt C H' p x := let ⟨dx, e⟩ := h; ⟨dx, o.keep w e (fun _ z => by cases z)⟩
mutual
theorem TgAt.out {C d : Addr} {H H' : Hp} (o : Out d H H') (w : WellAt H d) : ∀ {v : V} {x : Tg}, TgAt C d H v x → TgAt C d H' v x
  | _, _, .non => .non
  | _, _, .bl b => .bl b
  | _, _, .int b => .int b
  | _, _, .str b => .str b
  | _, _, .num h => .num (h.out o w)
  | _, _, .tup h a => .tup (o.keep w h (fun _ z => by cases z)) (TgAll.out o w a)
  | _, _, .lst n h a => .lst n (o _ _ n h) (TgAll.out o w a)
  | _, _, .dct h => .dct (o.keep w h (fun _ z => by cases z))
theorem TgAll.out {C d : Addr} {H H' : Hp} (o : Out d H H') (w : WellAt H d) : ∀ {vs : List V} {xs : List Tg}, TgAll C d H vs xs → TgAll C d H' vs xs
  | _, _, .nil => .nil
  | _, _, .cons a b => .cons (TgAt.out o w a) (TgAll.out o w b)
end
theorem TgAll.len {C d : Addr} {H : Hp} : ∀ {vs : List V} {xs : List Tg}, TgAll C d H vs xs → vs.length = xs.length
  | _, _, .nil => rfl
  | _, _, .cons _ b => by rw [List.length_cons, List.length_cons, TgAll.len b]
theorem TgAll.get {C d : Addr} {H : Hp} : ∀ {vs : List V} {xs : List Tg} {j : Nat} {v : V}, TgAll C d H vs xs → vs[j]? = some v → ∃ x, xs[j]? = some x ∧ TgAt C d H v x
  | _, _, 0, _, .cons a _, h => by
    cases h
    exact ⟨_, rfl, a⟩
  | _, _, j + 1, _, .cons _ b, h => by
    rw [List.getElem?_cons_succ] at h
    obtain ⟨x, h1, h2⟩ := TgAll.get b h
    exact ⟨x, by rw [List.getElem?_cons_succ]; exact h1, h2⟩
theorem TgAll.app {C d : Addr} {H : Hp} : ∀ {vs : List V} {xs : List Tg} {ws : List V} {ys : List Tg}, TgAll C d H vs xs → TgAll C d H ws ys → TgAll C d H (vs ++ ws) (xs ++ ys)
  | _, _, _, _, .nil, h => h
  | _, _, _, _, .cons a b, h => .cons a (TgAll.app b h)
theorem TgAll.take {C d : Addr} {H : Hp} : ∀ {vs : List V} {xs : List Tg} (n : Nat), TgAll C d H vs xs → TgAll C d H (vs.take n) (xs.take n)
  | _, _, 0, _ => .nil
  | _, _, _ + 1, .nil => .nil
  | _, _, n + 1, .cons a b => .cons a (TgAll.take n b)
theorem TgAll.drop {C d : Addr} {H : Hp} : ∀ {vs : List V} {xs : List Tg} (n : Nat), TgAll C d H vs xs → TgAll C d H (vs.drop n) (xs.drop n)
  | _, _, 0, h => h
  | _, _, _ + 1, .nil => .nil
  | _, _, n + 1, .cons _ b => TgAll.drop n b
theorem TgAll.rev {C d : Addr} {H : Hp} : ∀ {vs : List V} {xs : List Tg}, TgAll C d H vs xs → TgAll C d H vs.reverse xs.reverse
  | _, _, .nil => .nil
  | _, _, .cons a b => by rw [List.reverse_cons, List.reverse_cons]; exact (TgAll.rev b).app (.cons a .nil)
/-- the pairs of what is there and what it is -/
theorem TgAll.zip {C d : Addr} {H : Hp} : ∀ {vs : List V} {xs : List Tg}, TgAll C d H vs xs → (vs.zip xs).map Prod.fst = vs ∧ (vs.zip xs).map Prod.snd = xs ∧ ∀ z ∈ vs.zip xs, TgAt C d H z.1 z.2
  | _, _, .nil => ⟨rfl, rfl, fun _ h => by cases h⟩
  | _, _, .cons a b => by
    obtain ⟨h1, h2, h3⟩ := TgAll.zip b
    refine ⟨by rw [List.zip_cons_cons, List.map_cons, h1], by rw [List.zip_cons_cons, List.map_cons, h2], fun z hz => ?_⟩
    rcases List.mem_cons.mp hz with rfl | hz
    · exact a
    · exact h3 z hz
theorem TgAt.newT {C d : Addr} {H : Hp} {p : Addr} {vs : List V} {ts : List Tg} (hp : H p = none) (a : TgAll C d H vs ts) : TgAt C d (upd H p (.tup vs)) (.ref p) (.tup ts) := .tup upd_same (a.same (Same.new hp))
theorem TgAt.newL {C d : Addr} {H : Hp} {p : Addr} {vs : List V} {ts : List Tg} (hp : H p = none) (n : p ≠ d) (a : TgAll C d H vs ts) : TgAt C d (upd H p (.lst vs)) (.ref p) (.lst ts) := .lst n upd_same (a.same (Same.new hp))
namespace Tg
def isT : Tg → Bool
  | .tup _ => true
  | _ => false
def isI : Tg → Bool
  | .int _ => true
  | .bl _ => true
  | _ => false
def isB : Tg → Bool
  | .bl _ => true
  | _ => false
def isN : Tg → Bool
  | .num _ => true
  | _ => false
def isW : Tg → Bool
  | .int _ => true
  | _ => false
theorem isW_eq (x : Tg) : isW x = (isI x && !isB x) := by cases x <;> rfl
def ty : Tg → String
  | .non => "NoneType" | .bl _ => "bool" | .int _ => "int" | .str _ => "str" | .num _ => "" | .tup _ => "tuple" | .lst _ => "list" | .dct => "dict"
end Tg
end My

namespace My
open PySem L2
section
variable {P : Program} {w : World} {K : PySem.W.Frag} {mg : Str → Option Value} {base : Heap}
theorem TgAt.is (T : Txt w K mg) {d : Addr} {H : Hp} {v : V} {x : Tg} {n : String} {b : Bool} {Q : VK} (h : TgAt T.C_Number d H v x) (e : x.isN = false → PySem.W.kitOne K (.type x.ty) (.type n) = some b) (e' : x.isN = true → PySem.W.kitOne K (.ref T.C_Number) (.type n) = some b) (q : Q (.bl b) H) : rIsi K [v, .ty n] H Q := by
  cases h with
  | non => exact ⟨_, .ty n, .type _, .type n, b, rfl, .ty n, .base .non, e rfl, q⟩
  | bl z => exact ⟨_, .ty n, .type _, .type n, b, rfl, .ty n, .base (.bl _), e rfl, q⟩
  | int z => exact ⟨_, .ty n, .type _, .type n, b, rfl, .ty n, .base (.int _), e rfl, q⟩
  | str z => exact ⟨_, .ty n, .type _, .type n, b, rfl, .ty n, .base (.str _), e rfl, q⟩
  | tup h a => exact ⟨_, .ty n, .type _, .type n, b, rfl, .ty n, .base (.tup h), e rfl, q⟩
  | lst _ h a => exact ⟨_, .ty n, .type _, .type n, b, rfl, .ty n, .base (.lst h), e rfl, q⟩
  | dct h => exact ⟨_, .ty n, .type _, .type n, b, rfl, .ty n, .base (.dK h), e rfl, q⟩
  | num h =>
    obtain ⟨dx, g⟩ := h
    exact ⟨_, .ty n, .ref _, .type n, b, rfl, .ty n, .base (.ins g T.c_Number T.ty_Number_c T.ty_Number_g T.ty_Number_t T.ty_Number_m), e' rfl, q⟩
theorem Tg.kit_tuple (x : Tg) (h : x.isN = false) : PySem.W.kitOne K (.type x.ty) (.type "tuple") = some x.isT := by
  cases x with
  | num => cases h
  | non => exact kit_ty (show kitB "NoneType" "tuple" = some false from by decide +kernel)
  | bl => exact kit_ty (show kitB "bool" "tuple" = some false from by decide +kernel)
  | int => exact kit_ty (show kitB "int" "tuple" = some false from by decide +kernel)
  | str => exact kit_ty (show kitB "str" "tuple" = some false from by decide +kernel)
  | tup => exact kit_ty (show kitB "tuple" "tuple" = some true from by decide +kernel)
  | lst => exact kit_ty (show kitB "list" "tuple" = some false from by decide +kernel)
  | dct => exact kit_ty (show kitB "dict" "tuple" = some false from by decide +kernel)
theorem Tg.kit_int (x : Tg) (h : x.isN = false) : PySem.W.kitOne K (.type x.ty) (.type "int") = some x.isI := by
  cases x with
  | num => cases h
  | non => exact kit_ty (show kitB "NoneType" "int" = some false from by decide +kernel)
  | bl => exact kit_ty (show kitB "bool" "int" = some true from by decide +kernel)
  | int => exact kit_ty (show kitB "int" "int" = some true from by decide +kernel)
  | str => exact kit_ty (show kitB "str" "int" = some false from by decide +kernel)
  | tup => exact kit_ty (show kitB "tuple" "int" = some false from by decide +kernel)
  | lst => exact kit_ty (show kitB "list" "int" = some false from by decide +kernel)
  | dct => exact kit_ty (show kitB "dict" "int" = some false from by decide +kernel)
theorem Tg.kit_bool (x : Tg) (h : x.isN = false) : PySem.W.kitOne K (.type x.ty) (.type "bool") = some x.isB := by
  cases x with
  | num => cases h
  | non => exact kit_ty (show kitB "NoneType" "bool" = some false from by decide +kernel)
  | bl => exact kit_ty (show kitB "bool" "bool" = some true from by decide +kernel)
  | int => exact kit_ty (show kitB "int" "bool" = some false from by decide +kernel)
  | str => exact kit_ty (show kitB "str" "bool" = some false from by decide +kernel)
  | tup => exact kit_ty (show kitB "tuple" "bool" = some false from by decide +kernel)
  | lst => exact kit_ty (show kitB "list" "bool" = some false from by decide +kernel)
  | dct => exact kit_ty (show kitB "dict" "bool" = some false from by decide +kernel)
theorem TgAt.tuple? (T : Txt w K mg) {d : Addr} {H : Hp} {v : V} {x : Tg} {Q : VK} (h : TgAt T.C_Number d H v x) (q : Q (.bl x.isT) H) : rIsi K [v, .ty "tuple"] H Q := h.is T x.kit_tuple (fun z => by cases x <;> first | (cases z; done) | exact T.kN_tuple) q
theorem TgAt.int? (T : Txt w K mg) {d : Addr} {H : Hp} {v : V} {x : Tg} {Q : VK} (h : TgAt T.C_Number d H v x) (q : Q (.bl x.isI) H) : rIsi K [v, .ty "int"] H Q := h.is T x.kit_int (fun z => by cases x <;> first | (cases z; done) | exact T.kN_int) q
theorem TgAt.bool? (T : Txt w K mg) {d : Addr} {H : Hp} {v : V} {x : Tg} {Q : VK} (h : TgAt T.C_Number d H v x) (q : Q (.bl x.isB) H) : rIsi K [v, .ty "bool"] H Q := h.is T x.kit_bool (fun z => by cases x <;> first | (cases z; done) | exact T.kN_bool) q
theorem TgAt.num? (T : Txt w K mg) {d : Addr} {H : Hp} {v : V} {x : Tg} {Q : VK} (h : TgAt T.C_Number d H v x) (q : Q (.bl x.isN) H) : rIsi K [v, .ref T.C_Number] H Q := by
  cases h with
  | non => exact ⟨_, .ref T.C_Number, .type _, .ref T.C_Number, false, rfl, .own _, .base .non, T.kN_not _ (by simp [kinds66]), q⟩
  | bl z => exact ⟨_, .ref T.C_Number, .type _, .ref T.C_Number, false, rfl, .own _, .base (.bl _), T.kN_not _ (by simp [kinds66]), q⟩
  | int z => exact ⟨_, .ref T.C_Number, .type _, .ref T.C_Number, false, rfl, .own _, .base (.int _), T.kN_not _ (by simp [kinds66]), q⟩
  | str z => exact ⟨_, .ref T.C_Number, .type _, .ref T.C_Number, false, rfl, .own _, .base (.str _), T.kN_not _ (by simp [kinds66]), q⟩
  | tup h a => exact ⟨_, .ref T.C_Number, .type _, .ref T.C_Number, false, rfl, .own _, .base (.tup h), T.kN_not _ (by simp [kinds66]), q⟩
  | lst _ h a => exact ⟨_, .ref T.C_Number, .type _, .ref T.C_Number, false, rfl, .own _, .base (.lst h), T.kN_not _ (by simp [kinds66]), q⟩
  | dct h => exact ⟨_, .ref T.C_Number, .type _, .ref T.C_Number, false, rfl, .own _, .base (.dK h), T.kN_not _ (by simp [kinds66]), q⟩
  | num h =>
    obtain ⟨dx, g⟩ := h
    exact ⟨_, .ref T.C_Number, .ref T.C_Number, .ref T.C_Number, true, rfl, .own _, .base (.ins g T.c_Number T.ty_Number_c T.ty_Number_g T.ty_Number_t T.ty_Number_m), T.ty_Number_k, q⟩
def spWholeT (C : Addr) : Sp := fun vs H Q _ => ∃ (d : Addr) (v : V) (t : Tg), vs = [v] ∧ TgAt C d H v t ∧ Q (.bl t.isW) H
theorem ok_is_whole (T : Txt w K mg) : FnOk P w K mg base CX0 1 T.f_is_whole T.fd_is_whole ["thing"] (spWholeT T.C_Number) := by
  refine T.F_is_whole.ok sc_is_whole (fun vs H Q E h => ?_) (fun cdv A outer s H vs Q E hr h => ?_)
  · obtain ⟨d, v, t, rfl, _⟩ := h
    rfl
  · obtain ⟨d, v, t, rfl, ht, k⟩ := h
    refine ⟨_, (pss_one (ps_ret (pe_and (pe_callB call_isi (by rfl) T.n_isinstance (by decide +kernel) (pa_cons (pv 0) (pa_cons (pe_bltn (v := .ty "int") (by rfl) T.n_int (by decide +kernel) rfl) pa_nil))) (pe_one (pe_not (pe_callB call_isi (by rfl) T.n_isinstance (by decide +kernel) (pa_cons (pv 0) (pa_cons (pe_bltn (v := .ty "bool") (by rfl) T.n_bool (by decide +kernel) rfl) pa_nil)))))))), ?_⟩
    rw [Tg.isW_eq] at k
    walk_at "rdh"
    refine ht.int? T ?_
    walk_at "rdh"
    refine r_ite (fun i => ?_) (fun i => ?_)
    · rw [i, Bool.true_and] at k
      walk_at "rdh"
      refine ht.bool? T ?_
      walk_at "rdh"
      exact k
    · rw [i, Bool.false_and] at k
      exact k
theorem r_chainQ {r r' : R2} {ta tb tc : TE} {σ : L2.St} {H : Hp} {Q : VK} (q : ta σ H fun x H1 => tb σ H1 fun y H2 => r x y H2 fun z H3 => ∃ k, z = .bl k ∧ (if k = true then tc σ H3 fun w' H4 => r' y w' H4 Q else Q (.bl false) H3)) : tChain r r' ta tb tc σ H Q := q
def inR (wq : Rat) : Bool := decide (0 ≤ wq.num) && decide (wq.num ≤ (wq.den : Int))
/-- whether it is a pair of n whole numbers and a Number between nought and one -/
def toldT (n : Nat) : Tg → Bool
  | .tup [.tup cs, .num w] => decide (cs.length = n) && (cs.all Tg.isW && inR w)
  | _ => false
theorem told_isT {n : Nat} {t : Tg} (h : t.isT = false) : toldT n t = false := by cases t <;> first | rfl | cases h
theorem told_two {n : Nat} {ts : List Tg} (h : ts.length ≠ 2) : toldT n (.tup ts) = false := by
  match ts with
  | [] => rfl
  | [a] => cases a <;> rfl
  | [a, b] => exact absurd rfl h
  | a :: b :: c :: r => cases a <;> cases b <;> rfl
theorem told_a {n : Nat} {a b : Tg} (h : a.isT = false) : toldT n (.tup [a, b]) = false := by cases a <;> first | rfl | cases h
theorem told_b {n : Nat} {a b : Tg} (h : b.isN = false) : toldT n (.tup [a, b]) = false := by cases a <;> cases b <;> first | rfl | cases h
theorem told_n {n : Nat} {cs : List Tg} {b : Tg} (h : cs.length ≠ n) : toldT n (.tup [.tup cs, b]) = false := by
  cases b <;> first | rfl | (show (decide (cs.length = n) && _) = false; rw [decide_eq_false h]; rfl)
theorem told_w {n : Nat} {cs : List Tg} {b : Tg} (h : cs.all Tg.isW = false) : toldT n (.tup [.tup cs, b]) = false := by
  cases b <;> first | rfl | (show (decide (cs.length = n) && (cs.all Tg.isW && _)) = false; rw [h]; simp)
def spToldT (C : Addr) : Sp := fun vs H Q _ => ∃ (d : Addr) (v : V) (t : Tg) (n : Nat), vs = [v, .int (n : Int)] ∧ TgAt C d H v t ∧ n ≤ 100 ∧ ∀ H' : Hp, Same H H' → Q (.bl (toldT n t)) H'
theorem ok_is_told (T : Txt w K mg) : FnOk P w K mg base CX0 2 T.f_is_told T.fd_is_told ["thing", "many"] (spToldT T.C_Number) := by
  refine T.F_is_told.ok sc_is_told (fun vs H Q E h => ?_) (fun cdv A outer s H vs Q E hr h => ?_)
  · obtain ⟨d, v, t, n, rfl, _⟩ := h
    rfl
  · obtain ⟨d, v, t, n, rfl, ht, hn, k⟩ := h
    refine ⟨_, (pss_one (ps_ret (pe_and (pe_callB call_isi (by rfl) T.n_isinstance (by decide +kernel) (pa_cons (pv 0) (pa_cons (pe_bltn (v := .ty "tuple") (by rfl) T.n_tuple (by decide +kernel) rfl) pa_nil))) (pe_and (pe_cmpR op_eq (pe_callB call_len_seq (by rfl) T.n_len PySem.boot_len (pa_cons (pv 0) pa_nil)) pe_int (nomark _)) (pe_and (pe_callB call_isi (by rfl) T.n_isinstance (by decide +kernel) (pa_cons (pe_ix ix_tup (pv 0) pe_int (fun _ _ => rfl)) (pa_cons (pe_bltn (v := .ty "tuple") (by rfl) T.n_tuple (by decide +kernel) rfl) pa_nil))) (pe_and (pe_cmpR op_eq (pe_callB call_len_seq (by rfl) T.n_len PySem.boot_len (pa_cons (pe_ix ix_tup (pv 0) pe_int (fun _ _ => rfl)) pa_nil)) (pv 1) (nomark _)) (pe_and (pe_callB (cr_all rfl) (by rfl) T.n_all (by decide +kernel) (pa_cons (pe_lc (own := [("count", 2)]) (g := gName 2) (tt := tYes) rfl sc_is_told.nd (pi_tup (pe_ix ix_tup (pv 0) pe_int (fun _ _ => rfl))) (blkOk_by (own := [("count", 2)]) (N := ["thing", "many", "count"]) (sc := defScope s_is_told) (by decide +kernel)) (fun _ _ _ _ _ => pg_name (i := 2) sc_is_told.nd rfl (Or.inl rfl)) (fun _ _ _ _ _ => pts_nil) (fun _ _ _ _ _ => (pe_call (ok_is_whole T) (hr.mono (by decide)) (by rfl) T.m_is_whole T.F_is_whole.kp T.b_is_whole .nil pass0 (pa_cons (pv 2) pa_nil)))) pa_nil)) (pe_and (pe_callB call_isi (by rfl) T.n_isinstance (by decide +kernel) (pa_cons (pe_ix ix_tup (pv 0) pe_int (fun _ _ => rfl)) (pa_cons (pe_glob (v := .ref T.C_Number) (by rfl) T.m_Number rfl) pa_nil))) (pe_one (pe_chain op_le op_le pe_int (pe_fld (pe_ix ix_tup (pv 0) pe_int (fun _ _ => rfl)) rfl) (pe_fld (pe_ix ix_tup (pv 0) pe_int (fun _ _ => rfl)) rfl))))))))))), ?_⟩
    have cN := T.c_Number
    have nT := T.n_Number_top
    have nB := T.n_Number_bottom
    walk_at "rdh"
    refine ht.tuple? T ?_
    walk_at "rdh"
    refine r_ite (fun i0 => ?_) (fun i0 => ?_)
    rotate_left
    · skip
      rw [told_isT i0] at k
      exact k _ (Same.refl _)
    cases ht with
    | tup hp ha => ?_
    | _ => cases i0
    rename_i p vs ts
    walk_at "rdh"
    refine ⟨p, _, rfl, .inr (SqT.of hp), ?_⟩
    have len := ha.len
    walk_at "rdh"
    refine r_ite (fun i1 => ?_) (fun i1 => ?_)
    rotate_left
    · have : vs.length ≠ 2 := fun z => by simp [z] at i1
      rw [told_two (by rw [← len]; exact this)] at k
      exact k _ (Same.refl _)
    have l2 : vs.length = 2 := by
      have : (vs.length : Int) = 2 := by simpa using i1
      omega
    obtain ⟨v0, v1, rfl⟩ : ∃ a b, vs = [a, b] := by
      match vs, l2 with
      | [a, b], _ => exact ⟨a, b, rfl⟩
    cases ha with
    | cons h0 ha => ?_
    cases ha with
    | cons h1 ha => ?_
    cases ha with
    | nil => ?_
    rename_i t0 t1
    walk_at "rdh"
    refine r_ixT hp (atI_nat (j := 0) rfl) ?_
    walk_at "rdh"
    refine h0.tuple? T ?_
    walk_at "rdh"
    refine r_ite (fun i2 => ?_) (fun i2 => ?_)
    rotate_left
    · skip
      rw [told_a i2] at k
      exact k _ (Same.refl _)
    cases h0 with
    | tup hq hb => ?_
    | _ => cases i2
    rename_i q us cs
    have lq := hb.len
    walk_at "rdh"
    refine r_ixT hp (atI_nat (j := 0) rfl) ?_
    walk_at "rdh"
    refine ⟨q, _, rfl, .inr (SqT.of hq), ?_⟩
    walk_at "rdh"
    refine r_ite (fun i3 => ?_) (fun i3 => ?_)
    rotate_left
    · have : cs.length ≠ n := fun z => by simp [lq, z] at i3
      rw [told_n this] at k
      exact k _ (Same.refl _)
    have ln : us.length = n := by
      have : (us.length : Int) = (n : Int) := by simpa using i3
      omega
    obtain ⟨z1, z2, z3⟩ := hb.zip
    walk_at "rdh"
    refine r_lcT ?_
    walk_at "rdh"
    refine r_ixT hp (atI_nat (j := 0) rfl) ?_
    refine ⟨q, rfl, ⟨_, SqT.of hq⟩, fun D hD => ?_⟩
    have hq' : H q = some (.tup ((us.zip cs).map Prod.fst)) := by rw [z1]; exact hq
    have zl : (us.zip cs).length ≤ 1000 := by rw [List.length_zip]; omega
    refine lcT_of (K := K) (zs := us.zip cs) (el := Prod.fst) (e := fun z => V.bl z.2.isW) (f := fun _ => true) (SqT.of hq') zl hD (i := 2) (fun z H1 R _ h => ?_) (fun v => rfl) (fun z H1 R _ _ h => r_yes h) (fun z H1 R hz _ s1 h => ?_) fun H1 s1 hD1 => ?_
    · walk_at "rdh"
      exact h
    · walk_at "rdh"
      exact ⟨d, z.1, z.2, rfl, (z3 z hz).same s1, h H1 (Same.refl _)⟩
    rw [filter_yes] at hD1
    have em : (us.zip cs).map (fun z => V.bl z.2.isW) = (cs.map Tg.isW).map V.bl := by
      conv => rhs; rw [← z2]
      rw [List.map_map, List.map_map]
      rfl
    rw [em] at hD1
    refine ⟨D, cs.map Tg.isW, rfl, SqL.of hD1, ?_⟩
    have al : (cs.map Tg.isW).all id = cs.all Tg.isW := by rw [List.all_map]; rfl
    rw [al]
    have ht1 := s1 _ _ hp
    walk_at "rdh"
    refine r_ite (fun i4 => ?_) (fun i4 => ?_)
    rotate_left
    · skip
      rw [told_w i4] at k
      exact k _ s1
    walk_at "rdh"
    refine r_ixT ht1 (atI_nat (j := 1) rfl) ?_
    walk_at "rdh"
    refine (h1.same s1).num? T ?_
    walk_at "rdh"
    refine r_ite (fun i5 => ?_) (fun i5 => ?_)
    rotate_left
    · skip
      rw [told_b i5] at k
      exact k _ s1
    cases h1 with
    | num hw => ?_
    | _ => cases i5
    rename_i pw wq
    have e : toldT n (.tup [.tup cs, .num wq]) = inR wq := by
      show (decide (cs.length = n) && (cs.all Tg.isW && inR wq)) = inR wq
      rw [i4, decide_eq_true (by omega)]
      rfl
    rw [e] at k
    unfold inR at k
    obtain ⟨dq, eq1⟩ := hw.same s1
    walk_at "rdh"
    refine r_chainQ ?_
    walk_at "rdh"
    refine r_ixT ht1 (atI_nat (j := 1) rfl) ?_
    walk_at "rdf"
    refine r_ite (fun w0 => ?_) (fun w0 => ?_)
    · rw [w0, Bool.true_and] at k
      walk_at "rdh"
      refine r_ixT ht1 (atI_nat (j := 1) rfl) ?_
      walk_at "rdf"
      exact k _ s1
    · rw [w0, Bool.false_and] at k
      exact k _ s1
end
end My

namespace My
open PySem L2
theorem r_forZ {σ : L2.St} {H : Hp} {K : PySem.W.Frag} {ta : TA} {g : TG} {tb : TS} {D : Ends} (q : ta σ H fun vs H1 => ∃ a b xs ys, vs = [.ref a, .ref b] ∧ ((SqL K H1 a xs ∧ SqL K H1 b ys ∧ ∃ W : Nat → Nat → L2.St → Hp → Prop, (∃ m, W 0 m σ H1) ∧ ∀ i m σ H, W i m σ H →
    ((Itz K a b).stop i H ∧ D.nx σ H) ∨ ((Itz K a b).go i H ∧ ∃ N : L2.St → Hp → Prop, (∀ σ' H', N σ' H' → ∃ m', m' < m ∧ W (i + 1) m' σ' H') ∧ ∀ x H', (Itz K a b).yld i H x H' → g x σ H' fun σ2 H2 => tb { D with nx := N, ct := N, bk := D.nx } σ2 H2)) ∨ (SqT K H1 a xs ∧ SqT K H1 b ys ∧ ∃ W : Nat → Nat → L2.St → Hp → Prop, (∃ m, W 0 m σ H1) ∧ ∀ i m σ H, W i m σ H →
    ((RZ.ItzT K a b).stop i H ∧ D.nx σ H) ∨ ((RZ.ItzT K a b).go i H ∧ ∃ N : L2.St → Hp → Prop, (∀ σ' H', N σ' H' → ∃ m', m' < m ∧ W (i + 1) m' σ' H') ∧ ∀ x H', (RZ.ItzT K a b).yld i H x H' → g x σ H' fun σ2 H2 => tb { D with nx := N, ct := N, bk := D.nx } σ2 H2)))) : tFor (RZ.iZipA K ta) g tb D σ H := q
theorem r_forZM {σ : L2.St} {H : Hp} {K : PySem.W.Frag} {ta : TA} {g : TG} {tb : TS} {D : Ends} (q : ta σ H fun vs H1 => ∃ a b xs ys, vs = [.ref a, .ref b] ∧ SqT K H1 a xs ∧ SqL K H1 b ys ∧ ∃ W : Nat → Nat → L2.St → Hp → Prop, (∃ m, W 0 m σ H1) ∧ ∀ i m σ H, W i m σ H →
    ((ItzM K a b).stop i H ∧ D.nx σ H) ∨ ((ItzM K a b).go i H ∧ ∃ N : L2.St → Hp → Prop, (∀ σ' H', N σ' H' → ∃ m', m' < m ∧ W (i + 1) m' σ' H') ∧ ∀ x H', (ItzM K a b).yld i H x H' → g x σ H' fun σ2 H2 => tb { D with nx := N, ct := N, bk := D.nx } σ2 H2)) : tFor (iZipM K ta) g tb D σ H := q
theorem num_le_den {q : Rat} (h : q ≤ 1) : q.num ≤ (q.den : Int) := by
  have d0 : (0 : Int) < (q.den : Int) := by have := q.den_pos; omega
  have e : Rat.divInt q.num (q.den : Int) = q := Rat.num_divInt_den q
  have l := lt_cross (a := 1) (b := 1) (c := q.num) (d := (q.den : Int)) (by decide) d0
  rw [one_div, e] at l
  have n : ¬ 1 * (q.den : Int) < q.num * 1 := fun z => by
    have := l.mpr z
    exact absurd h (Rat.not_le.mpr this)
  omega
/-- whether all counts are put so -/
def allPut (us : List Rat) (cs : List Int) (w : Rat) : Bool := (us.zip cs).all fun e => putB e.1 e.2 w
theorem put_all {us : List Rat} {cs : List Int} {w : Rat} (l : cs.length = us.length) (h : ∀ (i : Nat) (u : Rat) (c : Int), us[i]? = some u → cs[i]? = some c → putB u c w = true) : allPut us cs w = true := by
  unfold allPut
  rw [List.all_eq_true]
  rintro ⟨u, c⟩ hm
  obtain ⟨i, hi⟩ := List.getElem?_of_mem hm
  rw [List.getElem?_zip_eq_some] at hi
  exact h i u c hi.1 hi.2
theorem put_not {us : List Rat} {cs : List Int} {w : Rat} {i : Nat} {u : Rat} {c : Int} (hu : us[i]? = some u) (hc : cs[i]? = some c) (h : putB u c w = false) : allPut us cs w = false := by
  unfold allPut
  rw [List.all_eq_false]
  exact ⟨(u, c), List.mem_of_getElem? (List.getElem?_zip_eq_some.mpr ⟨hu, hc⟩ : (us.zip cs)[i]? = some (u, c)), by simp [h]⟩
theorem sum_bd {n : Nat} : ∀ {cs : List Int}, (∀ c ∈ cs, c.natAbs < 2 ^ n) → cs.sum.natAbs ≤ cs.length * 2 ^ n
  | [], _ => by simp
  | c :: cs, h => by
    have a := h c (List.mem_cons_self ..)
    have b := sum_bd (cs := cs) fun d hd => h d (List.mem_cons_of_mem _ hd)
    rw [List.sum_cons, List.length_cons, Nat.add_mul, Nat.one_mul]
    have := Int.natAbs_add_le c cs.sum
    omega
/-! ### a pair told, among things of any kind -/
def intT : Tg → Int
  | .int i => i
  | _ => 0
def putT (us : List Rat) (tot : Int → Bool) (t : Tg) : Bool := toldT us.length t && match t with
  | .tup [.tup cs, .num w] => allPut us (cs.map intT) w && tot (cs.map intT).sum
  | _ => false
theorem ints_of : ∀ {cs : List Tg}, cs.all Tg.isW = true → ∃ is : List Int, cs = is.map Tg.int
  | [], _ => ⟨[], rfl⟩
  | c :: cs, h => by
    rw [List.all_cons, Bool.and_eq_true] at h
    obtain ⟨is, rfl⟩ := ints_of h.2
    cases c with
    | int i => exact ⟨i :: is, rfl⟩
    | _ => cases h.1
theorem told_yes {n : Nat} {t : Tg} (h : toldT n t = true) : ∃ (cs : List Int) (wq : Rat), t = .tup [.tup (cs.map Tg.int), .num wq] ∧ cs.length = n ∧ inR wq = true := by
  unfold toldT at h
  split at h
  · rename_i cs wq
    rw [Bool.and_eq_true, Bool.and_eq_true] at h
    obtain ⟨a, b, c⟩ := h
    obtain ⟨is, rfl⟩ := ints_of b
    exact ⟨is, wq, rfl, by have := of_decide_eq_true a; rwa [List.length_map] at this, c⟩
  · cases h
theorem int_back (cs : List Int) : (cs.map Tg.int).map intT = cs := by
  rw [List.map_map]
  exact List.map_id _
theorem ints_at {C d : Addr} {H : Hp} : ∀ {vs : List V} {cs : List Int}, TgAll C d H vs (cs.map Tg.int) → vs = cs.map V.int
  | _, [], h => by cases h; rfl
  | _, c :: cs, h => by
    rw [List.map_cons] at h
    cases h with
    | cons a b =>
      cases a
      rw [ints_at b]
      rfl
theorem told_at66 {C d : Addr} {H : Hp} {v : V} {cs : List Int} {wq : Rat} (h : TgAt C d H v (.tup [.tup (cs.map Tg.int), .num wq])) : ∃ t p2 q : Addr, v = .ref t ∧ H t = some (.tup [.ref p2, .ref q]) ∧ H p2 = some (.tup (cs.map V.int)) ∧ NumAt C H q wq := by
  cases h with
  | tup h a =>
    cases a with
    | cons a0 a =>
      cases a with
      | cons a1 a =>
        cases a
        cases a0 with
        | tup g b =>
          cases a1 with
          | num hn =>
            rw [ints_at b] at g
            exact ⟨_, _, _, rfl, h, g, hn⟩
theorem put_told66 {us : List Rat} {tot : Int → Bool} {cs : List Int} {wq : Rat} (l : cs.length = us.length) (r : inR wq = true) : putT us tot (.tup [.tup (cs.map Tg.int), .num wq]) = (allPut us cs wq && tot cs.sum) := by
  show (decide ((cs.map Tg.int).length = us.length) && ((cs.map Tg.int).all Tg.isW && inR wq) && (allPut us ((cs.map Tg.int).map intT) wq && tot ((cs.map Tg.int).map intT).sum)) = _
  rw [int_back, r, List.length_map, decide_eq_true l]
  have : (cs.map Tg.int).all Tg.isW = true := by
    rw [List.all_map, List.all_eq_true]
    intro x _
    rfl
  rw [this]
  rfl
theorem put_no {us : List Rat} {tot : Int → Bool} {t : Tg} (h : toldT us.length t = false) : putT us tot t = false := by
  unfold putT
  rw [h]
  rfl
/-- whole numbers below 2 ** 1000 and Numbers of 1000 bits in a told pair -/
def BoundT (t : Tg) : Prop := ∀ (cs : List Int) (wq : Rat), t = .tup [.tup (cs.map Tg.int), .num wq] → (∀ c ∈ cs, c.natAbs < 2 ^ 1000) ∧ Bd 1000 wq
section
variable {P : Program} {w : World} {K : PySem.W.Frag} {mg : Str → Option Value} {base : Heap}
def spHoldsT (C : Addr) : Sp := fun vs H Q _ => ∃ (p s d : Addr) (v : V) (t : Tg) (xs : List Rat) (y : Rat) (b : Nat), vs = [.ref p, .ref s, v] ∧ PartsAt C H p xs ∧ NumAt C H s y ∧ (0 < y ∧ Bd 45 y) ∧ (∀ x ∈ xs, Bd b x) ∧ (0 < xs.length ∧ xs.length ≤ 32) ∧ ((b + 1) * (xs.length + 1) ≤ 2300 ∧ b ≤ 900) ∧
  TgAt C d H v t ∧ BoundT t ∧ ∀ H' : Hp, Same H H' → Q (.bl (putT (xs.map (· / y)) (roundB (sumQ xs / y)) t)) H'
theorem ok_sum_holds (T : Txt w K mg) : FnOk P w K mg base CX0 11 T.f_sum_holds T.fd_sum_holds ["parts", "step", "thing"] (spHoldsT T.C_Number) := by
  refine T.F_sum_holds.ok sc_sum_holds (fun vs H Q E h => ?_) (fun cdv A outer s H vs Q E hr h => ?_)
  · obtain ⟨p, s, d, v, t, xs, y, b, rfl, _⟩ := h
    rfl
  · obtain ⟨p, s', d, v, tt, xs, y, b, rfl, hp, hs, ⟨y0, by'⟩, hb, ⟨n0, n32⟩, ⟨bl, b9⟩, ha, hbt, k⟩ := h
    refine ⟨_, (pss_cons (ps_if (pt_not (pt_val (pe_call (ok_is_told T) (hr.mono (by decide)) (by rfl) T.m_is_told T.F_is_told.kp T.b_is_told .nil pass0 (pa_cons (pv 2) (pa_cons (pe_callB call_len_seq (by rfl) T.n_len PySem.boot_len (pa_cons (pv 0) pa_nil)) pa_nil)))))
  (pss_one (ps_ret pe_bl))
  pss_nil)
 (pss_cons (ps_asg (pv 2) (pg_tup rfl (pgs_cons (pg_name (i := 3) sc_sum_holds.nd rfl (Or.inl rfl)) (pgs_cons (pg_name (i := 4) sc_sum_holds.nd rfl (Or.inl rfl)) pgs_nil))))
 (pss_cons (ps_for PassesOwn.never rfl (RZ.pi_zipA (by rfl) T.n_zip (pa_cons (pv 0) (pa_cons (pv 3) pa_nil))) (pg_tup rfl (pgs_cons (pg_name (i := 5) sc_sum_holds.nd rfl (Or.inl rfl)) (pgs_cons (pg_name (i := 6) sc_sum_holds.nd rfl (Or.inl rfl)) pgs_nil)))
  (pss_one (ps_if (pt_not (pt_val (pe_call (ok_is_put_so T) (hr.mono (by decide)) (by rfl) T.m_is_put_so T.F_is_put_so.kp T.b_is_put_so .nil pass0 (pa_cons (pe_meth (pv 5) T.c_Number T.me_Number_over (ok_Number_over T) (hr.mono (by decide)) T.b_Number_over .nil pass0 (pa_cons (pv 1) pa_nil)) (pa_cons (pv 6) (pa_cons (pv 4) pa_nil))))))
  (pss_one (ps_ret pe_bl))
  pss_nil)))
 (pss_one (ps_ret (pe_call (ok_is_rounded T) (hr.mono (by decide)) (by rfl) T.m_is_rounded T.F_is_rounded.kp T.b_is_rounded .nil pass0 (pa_cons (pe_meth (pe_call (ok_total_of T) (hr.mono (by decide)) (by rfl) T.m_total_of T.F_total_of.kp T.b_total_of .nil pass0 (pa_cons (pv 0) pa_nil)) T.c_Number T.me_Number_over (ok_Number_over T) (hr.mono (by decide)) T.b_Number_over .nil pass0 (pa_cons (pv 1) pa_nil)) (pa_cons (pe_callB (cr_sumT rfl) (by rfl) T.n_sum (by decide +kernel) (pa_cons (pv 3) pa_nil)) pa_nil)))))))), ?_⟩
    obtain ⟨vs, hv, hn⟩ := id hp
    have len := hn.len
    have yne : y ≠ 0 := by grind
    walk_at "rdh"
    refine ⟨p, _, rfl, .inr (SqT.of hv), ?_⟩
    walk_at "rdh"
    refine ⟨d, v, tt, _, rfl, ha, by omega, fun H1 s1 => ?_⟩
    walk_at "rdh"
    rw [len]
    refine r_ite (fun wr => ?_) (fun wr => ?_)
    · have wr' : toldT xs.length tt = false := by rw [Bool.not_eq_true'] at wr; exact wr
      rw [put_no (by rw [List.length_map]; exact wr')] at k
      walk_at "rdh"
      exact k _ s1
    have wr' : toldT xs.length tt = true := by rw [Bool.not_eq_false'] at wr; exact wr
    obtain ⟨cs, wq, rfl, lc, iw⟩ := told_yes wr'
    obtain ⟨t, p2, q, rfl, ht, hp2, hq⟩ := told_at66 ha
    obtain ⟨cb, wb⟩ := hbt cs wq rfl
    rw [put_told66 (by rw [List.length_map]; exact lc) iw] at k
    walk_at "rdh"
    refine r_gTup (s1 _ _ ht) rfl ?_
    walk_at "rdh"
    refine r_forZ ?_
    walk_at "rdh"
    refine ⟨p, p2, vs, cs.map V.int, rfl, .inr ⟨SqT.of (s1 _ _ hv), SqT.of (s1 _ _ hp2), ?_⟩⟩
    refine RZ.for_zipT (K := K) (by rw [List.length_map, lc, len]) (fun i σ H' => ∃ v5 v6 : Option V, σ = [some (.ref p), some (.ref s'), some (.ref t), some (.ref p2), some (.ref q), v5, v6] ∧ Same H H' ∧ ∀ (j : Nat) (u : Rat) (c : Int), j < i → (xs.map (· / y))[j]? = some u → cs[j]? = some c → putB u c wq = true) ⟨none, none, rfl, s1, fun j u c hj => by omega⟩ (fun i σ H' ⟨_, _, _, s2, _⟩ => ⟨SqT.of (s2 _ _ hv), SqT.of (s2 _ _ hp2)⟩) ?_ ?_
    · rintro i x z a σ H2 hx hz ⟨v5, v6, rfl, s2, put⟩ ha
      obtain ⟨px, xq, rfl, ex, nx⟩ := hn.get hx
      obtain ⟨c, rfl, ec⟩ : ∃ c : Int, z = .int c ∧ cs[i]? = some c := by
        rw [List.getElem?_map] at hz
        cases h : cs[i]? with
        | none => rw [h] at hz; cases hz
        | some c => rw [h] at hz; exact ⟨c, (Option.some.inj hz).symm, rfl⟩
      have s3 := s2.trans (Same.new (o := .tup [.ref px, .int c]) ha)
      have hxb := hb xq (List.mem_of_getElem? ex)
      refine r_gTup upd_same rfl ?_
      walk_at "rdh"
      obtain ⟨dx, exx⟩ := nx.same s3
      refine r_meth1 exx (no_over _) ?_
      walk_at "rdh"
      refine ⟨px, s', xq, y, rfl, ⟨_, exx⟩, hs.same s3, hxb.mono (by omega), by'.mono (by decide), yne, fun a2 H4 s4 _ h4 => ?_⟩
      walk_at "rdh"
      refine ⟨a2, q, xq / y, wq, c, rfl, h4, hq.same (s3.trans s4), (Bd.div hxb by' yne).mono (by omega), cb c (List.mem_of_getElem? ec), wb, fun H5 s5 => ?_⟩
      have s35 := (s3.trans s4).trans s5
      have eu : (xs.map (· / y))[i]? = some (xq / y) := by rw [List.getElem?_map, ex]; rfl
      walk_at "rdh"
      refine r_ite (fun e => ?_) (fun e => ?_)
      · walk_at "rdh"
        have e' : putB (xq / y) c wq = false := by simpa using e
        have := k _ s35
        rw [put_not eu ec e', Bool.false_and] at this
        exact this
      · walk_at "rdh"
        have e' : putB (xq / y) c wq = true := by simpa using e
        refine ⟨_, _, rfl, s35, fun j u d hj hu hd => ?_⟩
        by_cases ji : j = i
        · subst ji
          rw [eu] at hu
          rw [ec] at hd
          obtain rfl := Option.some.inj hu
          obtain rfl := Option.some.inj hd
          exact e'
        · exact put j u d (by omega) hu hd
    · rintro σ H2 ⟨v5, v6, rfl, s2, put⟩
      have ap : allPut (xs.map (· / y)) cs wq = true := put_all (by rw [List.length_map, lc]) fun i u c hu hc => put i u c (by
        have := (List.getElem?_eq_some_iff.mp hu).1
        rw [List.length_map] at this
        omega) hu hc
      rw [ap, Bool.true_and] at k
      walk_at "rdh"
      refine total_at (hp.same s2) n0 (by show xs.length * 2 ≤ 64; omega) hb (Nat.le_trans bl (by decide)) fun r H3 s3 n3 => ?_
      obtain ⟨dr, er⟩ := n3
      walk_at "rdh"
      refine r_meth1 er (no_over _) ?_
      walk_at "rdh"
      refine ⟨r, s', sumQ xs, y, rfl, ⟨_, er⟩, hs.same (s2.trans s3), ((Bd.sum hb).mono bl).mono (by decide), by'.mono (by decide), yne, fun r2 H4 s4 _ n4 => ?_⟩
      have s24 := (s2.trans s3).trans s4
      walk_at "rdh"
      refine ⟨p2, cs, rfl, SqT.of (s24 _ _ hp2), ?_⟩
      walk_at "rdh"
      have sb := sum_bd cb
      refine ⟨r2, sumQ xs / y, cs.sum, rfl, n4, (Bd.div ((Bd.sum hb).mono bl) by' yne).mono (by decide), ?_, ?_⟩
      · refine Nat.lt_of_le_of_lt sb (Nat.lt_of_le_of_lt (Nat.mul_le_mul_right _ (by omega : cs.length ≤ 32)) ?_)
        rw [show (32 : Nat) = 2 ^ 5 from rfl, ← Nat.pow_add]
        exact Nat.pow_lt_pow_right (by decide) (by decide)
      · walk_at "rdh"
        exact k _ s24
end
end My

namespace My
open PySem L2
/-! ### parts by steps, as whole numbers tell them -/
def OkP (p : Int × Int) : Prop := (0 < p.2 ∧ p.2 < 2 ^ 40) ∧ p.1.natAbs < 2 ^ 105
def uQ (st sb : Int) (p : Int × Int) : Rat := Rat.divInt (p.1 * sb) (p.2 * st)
def xQ (p : Int × Int) : Rat := Rat.divInt p.1 p.2
def rowQ (st sb : Int) (p : Int × Int) : Int × Int × Int := (p.1 * sb / (p.2 * st), p.1 * sb % (p.2 * st), p.2 * st)
def Stp (st sb : Int) : Prop := (0 < st ∧ st ≤ 10 ^ 12) ∧ (0 < sb ∧ sb ≤ 10 ^ 12)
theorem stp_lt {st sb : Int} (h : Stp st sb) : st.natAbs < 2 ^ 40 ∧ sb.natAbs < 2 ^ 40 := by
  obtain ⟨⟨a, b⟩, c, d⟩ := h
  have E : (10 : Int) ^ 12 = 1000000000000 := rfl
  omega
theorem under_pos {st sb : Int} {p : Int × Int} (h : Stp st sb) (hp : OkP p) : 0 < p.2 * st := Int.mul_pos hp.1.1 h.1.1
theorem under_lt {st sb : Int} {p : Int × Int} (h : Stp st sb) (hp : OkP p) : (p.2 * st).natAbs < 2 ^ 80 := natAbs_mul_lt (m := 40) (n := 40) (by have := hp.1; omega) (stp_lt h).1 (Nat.le_refl _)
theorem over_lt {st sb : Int} {p : Int × Int} (h : Stp st sb) (hp : OkP p) : (p.1 * sb).natAbs < 2 ^ 145 := natAbs_mul_lt (m := 105) (n := 40) hp.2 (stp_lt h).2 (Nat.le_refl _)
theorem u_div {t b st sb : Int} (hb : b ≠ 0) (h1 : st ≠ 0) (h2 : sb ≠ 0) : Rat.divInt t b / Rat.divInt st sb = Rat.divInt (t * sb) (b * st) := by
  simp only [Rat.divInt_eq_div, Rat.intCast_mul]
  have hb' : (b : Rat) ≠ 0 := by simpa using hb
  have h1' : (st : Rat) ≠ 0 := by simpa using h1
  have h2' : (sb : Rat) ≠ 0 := by simpa using h2
  generalize (t : Rat) = t' at *
  generalize (b : Rat) = b' at *
  generalize (st : Rat) = x' at *
  generalize (sb : Rat) = y' at *
  grind
theorem x_over {st sb : Int} (h : Stp st sb) {p : Int × Int} (hp : OkP p) : xQ p / Rat.divInt st sb = uQ st sb p := u_div (by have := hp.1; omega) (by have := h.1; omega) (by have := h.2; omega)
theorem xs_over {st sb : Int} (h : Stp st sb) {ps : List (Int × Int)} (hp : ∀ p ∈ ps, OkP p) : (ps.map xQ).map (· / Rat.divInt st sb) = ps.map (uQ st sb) := by
  rw [List.map_map]
  exact List.map_congr_left fun p hm => x_over h (hp p hm)
theorem fl_row {st sb : Int} (h : Stp st sb) {p : Int × Int} (hp : OkP p) : (uQ st sb p).floor = (rowQ st sb p).1 := floor_div (under_pos h hp)
theorem part_row {st sb : Int} (h : Stp st sb) {p : Int × Int} (hp : OkP p) : partQ (uQ st sb p) = Rat.divInt (rowQ st sb p).2.1 (rowQ st sb p).2.2 := part_div (under_pos h hp)
section
variable {P : Program} {w : World} {K : PySem.W.Frag} {mg : Str → Option Value} {base : Heap}
def spBeyond : Sp := fun vs H Q _ => ∃ (p s : Addr) (ps : List (Int × Int)) (st sb : Int), vs = [.ref p, .ref s] ∧ PairsAt H p ps ∧ (H s = some (.tup [.int st, .int sb]) ∧ Stp st sb) ∧ (∀ x ∈ ps, OkP x) ∧ ps.length ≤ 40 ∧
  ∀ (r : Addr) (H' : Hp), Same H H' → RowsAt H' r (ps.map (rowQ st sb)) → Q (.ref r) H'
theorem ok_l_beyond (T : Txt w K mg) : FnOk P w K mg base CX0 1 T.f_l_beyond T.fd_l_beyond ["_law_parts_here", "_law_by"] spBeyond := by
  refine T.F_l_beyond.ok sc_l_beyond (fun vs H Q E h => ?_) (fun cdv A outer s H vs Q E hr h => ?_)
  · obtain ⟨p, s, ps, st, sb, rfl, _⟩ := h
    rfl
  · obtain ⟨p, s', ps, st, sb, rfl, ⟨vs, hv, hn⟩, ⟨hs, hst⟩, hb, l40, k⟩ := h
    refine ⟨_, (pss_cons (ps_set (i := 2) sc_l_beyond.nd rfl (Or.inl rfl) (pe_lst pa_nil))
 (pss_cons (ps_for PassesOwn.never rfl (pi_list (pv 0)) (pg_tup rfl (pgs_cons (pg_name (i := 3) sc_l_beyond.nd rfl (Or.inl rfl)) (pgs_cons (pg_name (i := 4) sc_l_beyond.nd rfl (Or.inl rfl)) pgs_nil)))
  (pss_cons (ps_par (i := 5) (j := 6) rfl sc_l_beyond.nd rfl rfl (by decide) rfl rfl (pa_cons (pe_op op_mulW (pv 3) (pe_ix ix_tup (pv 1) pe_int (fun _ _ => rfl))) (pa_cons (pe_op op_mulW (pv 4) (pe_ix ix_tup (pv 1) pe_int (fun _ _ => rfl))) pa_nil)) (by rfl))
 (pss_one (ps_expr (pe_bm PySem.F.plainAttrs_list PySem.F.slot_list_append PySem.F.type_list_append mt_append (pv 2) (pa_cons (pe_tup (pa_cons (pe_op op_fdivW (pv 5) (pv 6)) (pa_cons (pe_op op_mod (pv 5) (pv 6)) (pa_cons (pv 6) pa_nil)))) pa_nil))))))
 (pss_one (ps_ret (pv 2))))), ?_⟩
    have len := hn.1
    have stb := stp_lt hst
    walk_at "rdh"
    refine r_new (by show 0 ≤ 1000; decide) fun D hD => ?_
    walk_at "rdh"
    refine r_forL ?_
    walk_at "rdh"
    have s0 := Same.new (o := .lst []) hD
    refine ⟨p, rfl, ⟨_, SqL.of (s0 _ _ hv)⟩, for_list (K := K) (a := p) (xs := vs) (fun i σ H' => ∃ (v3 v4 v5 v6 : Option V) (ts : List V), σ = [some (.ref p), some (.ref s'), some (.ref D), v3, v4, v5, v6] ∧ Same H H' ∧ H' D = some (.lst ts) ∧ TupsV tri H' ts ((ps.take i).map (rowQ st sb)) ∧ i ≤ vs.length) ⟨none, none, none, none, [], rfl, s0, upd_same, TupsV.nil, Nat.zero_le _⟩ (fun i σ H' _ ⟨_, _, _, _, _, _, s1, _⟩ => SqL.of (s1 _ _ hv)) ?_ ?_⟩
    · rintro i x σ H1 hx ⟨v3, v4, v5, v6, ts, rfl, s1, h1, t1, il⟩
      have li := (List.getElem?_eq_some_iff.mp hx).1
      obtain ⟨q, e, rfl, ex, hq⟩ := hn.2 i x hx
      have he := hb e (List.mem_of_getElem? ex)
      refine r_gTup (s1 _ _ hq) rfl ?_
      walk_at "rdh"
      refine r_ixT (s1 _ _ hs) (atI_nat (j := 1) rfl) ?_
      refine r_I (wide_mul he.2 stb.2 (by decide) (by decide) (by decide)) ?_
      walk_at "rdh"
      refine r_ixT (s1 _ _ hs) (atI_nat (j := 0) rfl) ?_
      refine r_I (wide_mul (a := 40) (by have := he.1; omega) stb.1 (by decide) (by decide) (by decide)) ?_
      walk_at "rdh"
      refine ⟨ty_list h1, ?_⟩
      walk_at "rdh"
      refine r_I (wide_div (under_pos hst he) (under_lt hst he) (by decide) (by decide)) ?_
      walk_at "rdh"
      refine r_I (under_pos hst he) ?_
      walk_at "rdh"
      refine r_new (by show 3 ≤ 1000; decide) fun t ht => ?_
      have s2 := Same.new (o := .tup [.int (e.1 * sb / (e.2 * st)), .int (e.1 * sb % (e.2 * st)), .int (e.2 * st)]) ht
      have lts : ts.length = i := by rw [t1.1, List.length_map, List.length_take]; omega
      walk_at "rdh"
      refine r_append (s2 _ _ h1) (by omega) ?_
      walk_at "rdh"
      refine ⟨_, _, _, _, ts ++ [.ref t], rfl, fun c o hc => ?_, upd_same, ?_, by omega⟩
      · rw [upd_ne (ne_of_none hc hD)]
        exact s2 _ _ (s1 _ _ hc)
      · have ek : ps.take (i + 1) = ps.take i ++ [e] := by rw [List.take_add_one, ex]; rfl
        rw [ek, List.map_append]
        refine TupsV.put (s2 _ _ h1) ((t1.same s2).push (x := rowQ st sb e) ?_)
        exact upd_same
    · rintro σ H1 ⟨v3, v4, v5, v6, ts, rfl, s1, h1, t1, _⟩
      walk_at "rdh"
      refine k D H1 s1 ⟨ts, h1, ?_⟩
      rw [List.take_of_length_le (by omega)] at t1
      exact t1
end
end My

namespace My
open PySem L2
theorem add_cross {a b c d : Int} (hb : b ≠ 0) (hd : d ≠ 0) : Rat.divInt (a * d + c * b) (b * d) = Rat.divInt a b + Rat.divInt c d := by
  simp only [Rat.divInt_eq_div, Rat.intCast_mul, Rat.intCast_add]
  have hb' : (b : Rat) ≠ 0 := by simpa using hb
  have hd' : (d : Rat) ≠ 0 := by simpa using hd
  generalize (a : Rat) = a' at *
  generalize (b : Rat) = b' at *
  generalize (c : Rat) = c' at *
  generalize (d : Rat) = d' at *
  grind
theorem sumQ_one (x : Rat) : sumQ [x] = x := by show x + 0 = x; grind
section
variable {P : Program} {w : World} {K : PySem.W.Frag} {mg : Str → Option Value} {base : Heap}
def spSteps : Sp := fun vs H Q _ => ∃ (p s : Addr) (ps : List (Int × Int)) (st sb : Int), vs = [.ref p, .ref s] ∧ PairsAt H p ps ∧ (H s = some (.tup [.int st, .int sb]) ∧ Stp st sb) ∧ (∀ x ∈ ps, OkP x) ∧ ps.length ≤ 40 ∧
  ∀ (H' : Hp), Same H H' → Q (.int (takenQ .heven (sumQ (ps.map (uQ st sb))))) H'
theorem ok_l_steps (T : Txt w K mg) : FnOk P w K mg base CX0 1 T.f_l_steps T.fd_l_steps ["_law_parts_here", "_law_by"] spSteps := by
  refine T.F_l_steps.ok sc_l_steps (fun vs H Q E h => ?_) (fun cdv A outer s H vs Q E hr h => ?_)
  · obtain ⟨p, s, ps, st, sb, rfl, _⟩ := h
    rfl
  · obtain ⟨p, s', ps, st, sb, rfl, ⟨vs, hv, hn⟩, ⟨hs, hst⟩, hb, l40, k⟩ := h
    refine ⟨_, (pss_cons (ps_asg (pe_tup (pa_cons pe_int (pa_cons pe_int pa_nil))) (pg_tup rfl (pgs_cons (pg_name (i := 2) sc_l_steps.nd rfl (Or.inl rfl)) (pgs_cons (pg_name (i := 3) sc_l_steps.nd rfl (Or.inl rfl)) pgs_nil))))
 (pss_cons (ps_for PassesOwn.never rfl (pi_list (pv 0)) (pg_tup rfl (pgs_cons (pg_name (i := 4) sc_l_steps.nd rfl (Or.inl rfl)) (pgs_cons (pg_name (i := 5) sc_l_steps.nd rfl (Or.inl rfl)) pgs_nil)))
  (pss_cons (ps_set (i := 6) sc_l_steps.nd rfl (Or.inl rfl) (pe_op op_mulW (pv 5) (pe_ix ix_tup (pv 1) pe_int (fun _ _ => rfl))))
 (pss_one (ps_par (i := 2) (j := 3) rfl sc_l_steps.nd rfl rfl (by decide) rfl rfl (pa_cons (pe_op op_add (pe_op op_mulW (pv 2) (pv 6)) (pe_op op_mulW (pe_op op_mulW (pv 4) (pe_ix ix_tup (pv 1) pe_int (fun _ _ => rfl))) (pv 3))) (pa_cons (pe_op op_mulW (pv 3) (pv 6)) pa_nil)) (by rfl)))))
 (pss_cons (ps_par (i := 7) (j := 8) rfl sc_l_steps.nd rfl rfl (by decide) rfl rfl (pa_cons (pe_op op_fdivW (pv 2) (pv 3)) (pa_cons (pe_op op_mod (pv 2) (pv 3)) pa_nil)) (by rfl))
 (pss_one (ps_ret (pe_op op_add (pv 7) (pe_callTy call_int1 (by rfl) T.n_int (by decide +kernel) (pa_cons (pe_or (pe_cmpR op_gt (pe_op op_mul pe_int (pv 8)) (pv 3) (nomark _)) (pe_one (pe_and (pe_cmpR op_eq (pe_op op_mul pe_int (pv 8)) (pv 3) (nomark _)) (pe_one (pe_cmpR op_eq (pe_op op_mod (pv 7) pe_int) pe_int (nomark _)))))) pa_nil)))))))), ?_⟩
    have len := hn.1
    have stb := stp_lt hst
    walk_at "rdh"
    refine r_new (by show 2 ≤ 1000; decide) fun t0 ht0 => ?_
    have s0 := Same.new (o := .tup [.int 0, .int 1]) ht0
    refine r_gTup upd_same rfl ?_
    walk_at "rdh"
    refine r_forL ?_
    walk_at "rdh"
    refine ⟨p, rfl, ⟨_, SqL.of (s0 _ _ hv)⟩, for_list (K := K) (a := p) (xs := vs) (fun i σ H' => ∃ (tp bt : Int) (v4 v5 v6 : Option V), σ = [some (.ref p), some (.ref s'), some (.int tp), some (.int bt), v4, v5, v6, none, none] ∧ Same H H' ∧ (0 < bt ∧ bt.natAbs < 2 ^ (80 * i + 1)) ∧ tp.natAbs < 2 ^ (145 + 82 * i) ∧ Rat.divInt tp bt = sumQ ((ps.take i).map (uQ st sb)) ∧ i ≤ vs.length) ⟨0, 1, none, none, none, rfl, s0, ⟨by decide, by decide⟩, by decide, (show Rat.divInt 0 1 = (0 : Rat) from by decide +kernel), Nat.zero_le _⟩ (fun i σ H' _ ⟨_, _, _, _, _, _, s1, _⟩ => SqL.of (s1 _ _ hv)) ?_ ?_⟩
    · rintro i x σ H1 hx ⟨tp, bt, v4, v5, v6, rfl, s1, ⟨b0, bb⟩, tb, ed, il⟩
      have li := (List.getElem?_eq_some_iff.mp hx).1
      obtain ⟨q, e, rfl, ex, hq⟩ := hn.2 i x hx
      have he := hb e (List.mem_of_getElem? ex)
      have wp := under_pos hst he
      have wl := under_lt hst he
      have ol := over_lt hst he
      have tb' : tp.natAbs < 2 ^ 4000 := Nat.lt_of_lt_of_le tb (Nat.pow_le_pow_right (by decide) (by omega))
      have bb' : bt.natAbs < 2 ^ 4000 := Nat.lt_of_lt_of_le bb (Nat.pow_le_pow_right (by decide) (by omega))
      refine r_gTup (s1 _ _ hq) rfl ?_
      walk_at "rdh"
      refine r_ixT (s1 _ _ hs) (atI_nat (j := 0) rfl) ?_
      refine r_I (wide_mul (a := 40) (by have := he.1; omega) stb.1 (by decide) (by decide) (by decide)) ?_
      walk_at "rdh"
      refine r_I (wide_mul tb' wl (by decide) (by decide) (by decide)) ?_
      walk_at "rdh"
      refine r_ixT (s1 _ _ hs) (atI_nat (j := 1) rfl) ?_
      refine r_I (wide_mul he.2 stb.2 (by decide) (by decide) (by decide)) ?_
      walk_at "rdh"
      refine r_I (wide_mul ol bb' (by decide) (by decide) (by decide)) ?_
      walk_at "rdh"
      refine r_I (wide_mul bb' wl (by decide) (by decide) (by decide)) ?_
      walk_at "rdh"
      refine ⟨_, _, _, _, _, rfl, s1, ⟨Int.mul_pos b0 wp, natAbs_mul_lt bb wl (by omega)⟩, ?_, ?_, by omega⟩
      · have m1 := natAbs_mul_lt tb wl (k := 225 + 82 * i) (by omega)
        have m2 := natAbs_mul_lt ol bb (k := 226 + 82 * i) (by omega)
        have m3 : 2 ^ (225 + 82 * i) ≤ 2 ^ (226 + 82 * i) := Nat.pow_le_pow_right (by decide) (by omega)
        have := natAbs_add_lt (Nat.lt_of_lt_of_le m1 m3) m2
        exact Nat.lt_of_lt_of_le this (Nat.pow_le_pow_right (by decide) (by omega))
      · have ek : ps.take (i + 1) = ps.take i ++ [e] := by rw [List.take_add_one, ex]; rfl
        rw [ek, List.map_append, sumQ_append, ← ed, add_cross (by omega) (by omega)]
        show _ + uQ st sb e = _ + sumQ [uQ st sb e]
        rw [sumQ_one]
    · rintro σ H1 ⟨tp, bt, v4, v5, v6, rfl, s1, ⟨b0, bb⟩, tb, ed, _⟩
      rw [List.take_of_length_le (by omega)] at ed
      have k1 := k _ s1
      rw [← ed, even_div b0] at k1
      have bb' : bt.natAbs < 2 ^ 4000 := Nat.lt_of_lt_of_le bb (Nat.pow_le_pow_right (by decide) (by omega))
      walk_at "rdh"
      refine r_I (wide_div b0 bb' (by decide) (by decide)) ?_
      walk_at "rdh"
      refine r_I b0 ?_
      walk_at "rdh"
      refine r_ite (fun c1 => ?_) (fun c1 => ?_)
      · walk_at "rdh"
        refine .inr ⟨true, rfl, ?_⟩
        walk_at "rdh"
        rw [if_pos (.inl (of_decide_eq_true c1))] at k1
        exact k1
      · have n1 := of_decide_eq_false c1
        walk_at "rdh"
        refine r_ite (fun c2 => ?_) (fun c2 => ?_)
        · have n2 := of_decide_eq_true c2
          walk_at "rdh"
          refine .inr ⟨_, rfl, ?_⟩
          walk_at "rdh"
          by_cases c3 : (tp / bt) % 2 = 1
          · rw [if_pos (.inr ⟨n2, c3⟩)] at k1
            rw [if_pos (decide_eq_true c3)]
            exact k1
          · rw [if_neg (by omega)] at k1
            rw [if_neg (by rw [decide_eq_true_eq]; exact c3)]
            exact k1
        · have n2 := of_decide_eq_false c2
          walk_at "rdh"
          refine .inr ⟨false, rfl, ?_⟩
          walk_at "rdh"
          rw [if_neg (by omega)] at k1
          exact k1
end
end My

namespace My
open PySem L2
section
variable {P : Program} {w : World} {K : PySem.W.Frag} {mg : Str → Option Value} {base : Heap}
theorem NumsV.push {C : Addr} {H : Hp} {vs : List V} {xs : List Rat} {p : Addr} {x : Rat} (h : NumsV C H vs xs) (n : NumAt C H p x) : NumsV C H (vs ++ [.ref p]) (xs ++ [x]) := by
  induction h with
  | nil => exact .cons n .nil
  | cons a _ ih => exact .cons a ih
theorem NumsV.put {C : Addr} {H : Hp} {vs us : List V} {xs : List Rat} {D : Addr} (hD : H D = some (.lst us)) {o : HO} (h : NumsV C H vs xs) : NumsV C (upd H D o) vs xs := by
  induction h with
  | nil => exact .nil
  | cons a _ ih =>
    obtain ⟨dx, e⟩ := a
    exact .cons ⟨dx, by rw [upd_ne (ne_of e hD (fun z => by cases z))]; exact e⟩ ih
def spMade (C : Addr) : Sp := fun vs H Q _ => ∃ (p : Addr) (ps : List (Int × Int)), vs = [.ref p] ∧ PairsAt H p ps ∧ (∀ x ∈ ps, OkP x) ∧ ps.length ≤ 40 ∧
  ∀ (r : Addr) (H' : Hp), Same H H' → PartsAt C H' r (ps.map xQ) → Q (.ref r) H'
theorem ok_l_made (T : Txt w K mg) : FnOk P w K mg base CX0 3 T.f_l_made T.fd_l_made ["_law_parts_here"] (spMade T.C_Number) := by
  refine T.F_l_made.ok sc_l_made (fun vs H Q E h => ?_) (fun cdv A outer s H vs Q E hr h => ?_)
  · obtain ⟨p, ps, rfl, _⟩ := h
    rfl
  · obtain ⟨p, ps, rfl, ⟨vs, hv, hn⟩, hb, l40, k⟩ := h
    refine ⟨_, (pss_one (ps_ret (pe_callTy call_tuple_of (by rfl) T.n_tuple (by decide +kernel) (pa_cons (pe_lc (own := [("_law_top", 1), ("_law_bottom", 2)]) (g := gTup K 2 (gCons (gName 1) (gCons (gName 2) gNil))) (tt := tYes) rfl sc_l_made.nd (pi_list (pv 0)) (blkOk_by (own := [("_law_top", 1), ("_law_bottom", 2)]) (N := ["_law_parts_here", "_law_top", "_law_bottom"]) (sc := defScope s_l_made) (by decide +kernel)) (fun _ _ _ _ _ => pg_tup rfl (pgs_cons (pg_name (i := 1) sc_l_made.nd rfl (Or.inl rfl)) (pgs_cons (pg_name (i := 2) sc_l_made.nd rfl (Or.inl rfl)) pgs_nil))) (fun _ _ _ _ _ => pts_nil) (fun _ _ _ _ _ => (pe_make T.mk_Number (ok_Number_init T) (hr.mono (by decide)) (by rfl) T.m_Number T.b_Number_init2 .nil pass0 (pa_cons (pv 1) (pa_cons (pv 2) pa_nil))))) pa_nil)))), ?_⟩
    have len := hn.1
    walk_at "rdh"
    refine r_lcL ?_
    walk_at "rdh"
    refine ⟨p, rfl, ⟨_, SqL.of hv⟩, fun D hD => ?_⟩
    refine lc_list (K := K) (a := p) (xs := vs) (fun j H' => Same H H' ∧ ∃ ts : List V, H' D = some (.lst ts) ∧ NumsV T.C_Number H' ts ((ps.take j).map xQ) ∧ j ≤ vs.length) ⟨Same.new hD, [], upd_same, .nil, Nat.zero_le _⟩ (fun j H' _ ⟨s, _⟩ => SqL.of (s _ _ hv)) ?_ ?_
    · rintro j z H2 hz ⟨s2, ts, hts, hk, jl⟩
      obtain ⟨q, e, rfl, ex, hq⟩ := hn.2 j z hz
      have he := hb e (List.mem_of_getElem? ex)
      have jl' : j < vs.length := (List.getElem?_eq_some_iff.mp hz).1
      have lts : ts.length = j := by rw [hk.len, List.length_map, List.length_take]; omega
      refine r_gTup (s2 _ _ hq) rfl ?_
      walk_at "rdh"
      refine ⟨rfl, ?_⟩
      refine r_tyes ?_
      walk_at "rdh"
      refine mk_num (by have := he.1; omega) (Nat.lt_of_lt_of_le (show e.2.natAbs < 2 ^ 40 by have := he.1; omega) (Nat.pow_le_pow_right (by decide) (by decide))) fun n H3 s3 n3 h3 => ?_
      refine ⟨ts, s3 _ _ hts, by rw [lts]; exact Nat.lt_of_lt_of_le (show j < 41 by omega) (by decide), ?_, ts ++ [.ref n], upd_same, ?_, by omega⟩
      · intro c o hc
        rw [upd_ne (ne_of_none hc hD)]
        exact s3 _ _ (s2 _ _ hc)
      · have ek : ps.take (j + 1) = ps.take j ++ [e] := by rw [List.take_add_one, ex]; rfl
        rw [ek, List.map_append]
        exact NumsV.put (s3 _ _ hts) ((hk.same s3).push (x := xQ e) h3)
    · rintro H1 ⟨s1, ts, hts, hk, _⟩
      rw [List.take_of_length_le (by omega)] at hk
      walk_at "rdh"
      refine ⟨D, ts, rfl, .inl ⟨SqL.of hts, fun l hl => ?_⟩⟩
      have sl := Same.new (o := .tup ts) hl
      exact k l _ (s1.trans sl) ⟨ts, upd_same, hk.same sl⟩
end
end My

namespace My
open PySem L2
section
variable {P : Program} {w : World} {K : PySem.W.Frag} {mg : Str → Option Value} {base : Heap}
theorem int_of {v : V} {xs : List Int} (h : v ∈ xs.map V.int) : ∃ i, v = .int i ∧ i ∈ xs := by
  obtain ⟨i, hi, rfl⟩ := List.mem_map.mp h
  exact ⟨i, rfl, hi⟩
theorem atI_int {xs : List Int} {r : Int} (h0 : 0 ≤ r) (h1 : r < (xs.length : Int)) : ∃ i, atI (xs.map V.int) r = some (.int i) ∧ i ∈ xs := by
  obtain ⟨n, rfl⟩ := Int.eq_ofNat_of_zero_le h0
  have hn : n < xs.length := by omega
  exact ⟨xs[n], atI_nat (by rw [List.getElem?_map, List.getElem?_eq_getElem hn]; rfl), List.getElem_mem hn⟩
theorem two_at {i j : Int} (k : Bool) : atI [V.int i, .int j] (if k then 1 else 0) = some (.int (if k = true then j else i)) := by cases k <;> rfl
/-- a literal list of whole numbers, and one of it -/
theorem r_pick {K : PySem.W.Frag} {H : Hp} {Q : VK} {l : Addr} {r : Int} (xs : List Int) (h : H l = some (.lst (xs.map V.int))) (h0 : 0 ≤ r) (h1 : r < (xs.length : Int)) (q : ∀ i : Int, i ∈ xs → Q (.int i) H) : rIxL K (.ref l) (.int r) H Q := by
  obtain ⟨i, e, m⟩ := atI_int h0 h1
  exact r_ixL h e (q i m)
theorem r_lcN {σ : L2.St} {H : Hp} {Q : VK} {tr : TA} {te : TE} {g : TG} {tt : TT} {vs : List Nat} (q : tr σ H fun ws H1 => ∃ j : Int, ws = [.int j] ∧ -(2 ^ 62) ≤ j ∧ j < 2 ^ 62 ∧ ∀ D, H1 D = none → ∃ W : Nat → Nat → Hp → Prop, (∃ m, W 0 m (upd H1 D (.lst []))) ∧ ∀ i m H, W i m H →
    ((Itr 0 j.toNat).stop i H ∧ Q (.ref D) H) ∨ ((Itr 0 j.toNat).go i H ∧ ∃ Nx : Hp → Prop, (∀ H', Nx H' → ∃ m', m' < m ∧ W (i + 1) m' H') ∧ ∀ x H', (Itr 0 j.toNat).yld i H x H' → g x (wipe σ vs) H' fun σ2 H2 => wipe σ2 vs = wipe σ vs ∧ tt σ2 H2 fun b H3 =>
      if b = true then te σ2 H3 fun y H4 => ∃ acc, H4 D = some (.lst acc) ∧ acc.length < sizeLine ∧ Nx (upd H4 D (.lst (acc ++ [y]))) else Nx H3)) : tLc (iRng1 tr) g tt te vs σ H Q := q
theorem TupsV.out {α : Type} {f : α → List V} {H H' : Hp} {d : Addr} {vs : List V} {xs : List α} (o : Out d H H') (wl : WellAt H d) (h : TupsV f H vs xs) : TupsV f H' vs xs := ⟨h.1, fun i v hv =>
  let ⟨q, x, e, ex, hq⟩ := h.2 i v hv
  ⟨q, x, e, ex, o.keep wl hq (fun _ z => by cases z)⟩⟩
end
theorem r_pickP {K : PySem.W.Frag} {H : Hp} {Q : VK} {l : Addr} {r : Int} {ps : List (Int × Int)} (h : PairsAt H l ps) (h0 : 0 ≤ r) (h1 : r < (ps.length : Int)) (q : ∀ (a : Addr) (e : Int × Int), e ∈ ps → H a = some (.tup [.int e.1, .int e.2]) → Q (.ref a) H) : rIxL K (.ref l) (.int r) H Q := by
  obtain ⟨vs, hl, ht⟩ := h
  obtain ⟨n, rfl⟩ := Int.eq_ofNat_of_zero_le h0
  have hn : n < vs.length := by rw [ht.1]; omega
  obtain ⟨a, e, ev, ee, ha⟩ := ht.2 n vs[n] (List.getElem?_eq_getElem hn)
  exact r_ixL hl (atI_nat (by rw [List.getElem?_eq_getElem hn, ev])) (q a e (List.mem_of_getElem? ee) ha)
theorem PairsAt.out {H H' : Hp} {d p : Addr} {ps : List (Int × Int)} (o : Out d H H') (wl : WellAt H d) (ne : p ≠ d) (h : PairsAt H p ps) : PairsAt H' p ps := let ⟨vs, a, b⟩ := h; ⟨vs, o _ _ ne a, b.out o wl⟩
end My

namespace My
open PySem L2
def prD (p : Int × Int) : PyData := .tuple [.int p.1, .int p.2]
theorem dp_pairs {K : PySem.W.Frag} {H : Hp} : ∀ {vs : List V} {ps : List (Int × Int)}, TupsV pr H vs ps → DpAll K H vs (ps.map prD)
  | [], [], _ => .nil
  | [], _ :: _, h => by cases h.1
  | _ :: _, [], h => by cases h.1
  | v :: vs, e :: ps, h => by
    obtain ⟨q, x, rfl, ex, hq⟩ := h.2 0 v rfl
    obtain rfl := Option.some.inj ex
    exact .cons (.tup (SqT.of hq) (.cons (.int _) (.cons (.int _) .nil))) (dp_pairs ⟨by simpa using h.1, fun i v hv => h.2 (i + 1) v hv⟩)
theorem lay_pairs : ∀ ps : List (Int × Int), PyData.canLayAll0 (ps.map prD) = true ∧ PyData.depthAll (ps.map prD) ≤ 1
  | [] => ⟨rfl, Nat.zero_le _⟩
  | p :: ps => by
    obtain ⟨a, b⟩ := lay_pairs ps
    constructor
    · show (PyData.canLay0 (prD p) && PyData.canLayAll0 (ps.map prD)) = true
      rw [a]
      simp [prD, PyData.canLay0, PyData.canLayAll0]
    · show max (PyData.depth (prD p)) (PyData.depthAll (ps.map prD)) ≤ 1
      have : PyData.depth (prD p) = 1 := by simp [prD, PyData.depth, PyData.depthAll]
      omega
theorem shaped_pairs (ps : List (Int × Int)) : SeqAt.shaped (.list (ps.map prD)) = true := by
  obtain ⟨a, b⟩ := lay_pairs ps
  have a' : PyData.canLay0 (.list (ps.map prD)) = true := by rw [PyData.canLay0]; exact a
  have b' : PyData.depth (.list (ps.map prD)) ≤ 64 := by rw [PyData.depth]; omega
  unfold SeqAt.shaped
  rw [a', decide_eq_true b']
  rfl
theorem r_nePairs {K : PySem.W.Frag} {H : Hp} {Q : VK} {p q : Addr} {ps : List (Int × Int)} {vs : List V} (h : H p = some (.lst vs)) (t : TupsV pr H vs ps) (h' : H q = some (.lst [])) (k : Q (.bl (!decide (ps = []))) H) : rNeD K (.ref p) (.ref q) H Q :=
  ⟨.list (ps.map prD), .list [], .lst (SqL.of h) (dp_pairs t), .lst (SqL.of h') .nil, shaped_pairs ps, shaped_pairs [], by
    have e : PyData.eqv (.list (ps.map prD)) (.list []) = decide (ps = []) := by
      rw [PyData.eqv]
      cases ps <;> simp [PyData.eqvAll]
    rw [e]; exact k⟩
section
variable {P : Program} {w : World} {K : PySem.W.Frag} {mg : Str → Option Value} {base : Heap}
def spLParts : Sp := fun vs H Q _ => ∃ (d s : Addr) (st sb most : Int), vs = [.ref d, .ref s, .int most] ∧ WellAt H d ∧ H s = some (.tup [.int st, .int sb]) ∧ ((0 < st ∧ st ≤ 10 ^ 6) ∧ (0 < sb ∧ sb ≤ 10 ^ 6)) ∧ (0 < most ∧ most ≤ 12) ∧ ∀ (p : Addr) (ps : List (Int × Int)) (H' : Hp), Out d H H' → WellAt H' d → PairsAt H' p ps → H p = none → (0 < ps.length ∧ ps.length ≤ 12) → (∀ x ∈ ps, OkP x) → Q (.ref p) H'
theorem ok_l_parts (T : Txt w K mg) : FnOk P w K mg base CX0 2 T.f_l_parts T.fd_l_parts ["_law_well_here", "_law_by", "_law_most"] spLParts := by
  refine T.F_l_parts.ok sc_l_parts (fun vs H Q E h => ?_) (fun cdv A outer s H vs Q E hr h => ?_)
  · obtain ⟨d, s, st, sb, most, rfl, _⟩ := h
    rfl
  · obtain ⟨d, s', st, sb, most, rfl, w0, hs, ⟨hst, hsb⟩, hm, k⟩ := h
    refine ⟨_, (pss_cons (ps_set (i := 3) sc_l_parts.nd rfl (Or.inl rfl) (pe_call (ok_l_take T) (hr.mono (by decide)) (by rfl) T.m_l_take T.F_l_take.kp T.b_l_take .nil pass0 (pa_cons (pv 0) (pa_cons pe_int pa_nil))))
 (pss_cons (ps_set (i := 4) sc_l_parts.nd rfl (Or.inl rfl) (pe_lst pa_nil))
 (pss_cons (ps_for PassesOwn.never rfl (pi_range1 rfl T.n_range (pa_cons (pe_op op_add pe_int (pe_call (ok_l_take T) (hr.mono (by decide)) (by rfl) T.m_l_take T.F_l_take.kp T.b_l_take .nil pass0 (pa_cons (pv 0) (pa_cons (pv 2) pa_nil)))) pa_nil)) (pg_name (i := 5) sc_l_parts.nd rfl (Or.inl rfl))
  (pss_cons (ps_set (i := 6) sc_l_parts.nd rfl (Or.inl rfl) (pe_ix ix_list (pe_lst (pa_cons pe_int (pa_cons pe_int (pa_cons pe_int (pa_cons pe_int (pa_cons pe_int (pa_cons pe_int pa_nil))))))) (pe_call (ok_l_take T) (hr.mono (by decide)) (by rfl) T.m_l_take T.F_l_take.kp T.b_l_take .nil pass0 (pa_cons (pv 0) (pa_cons pe_int pa_nil))) (fun _ _ => rfl)))
 (pss_cons (ps_set (i := 7) sc_l_parts.nd rfl (Or.inl rfl) (pe_ix ix_list (pe_lst (pa_cons (pe_call (ok_l_take T) (hr.mono (by decide)) (by rfl) T.m_l_take T.F_l_take.kp T.b_l_take .nil pass0 (pa_cons (pv 0) (pa_cons pe_int pa_nil))) (pa_cons (pe_op op_sub (pe_call (ok_l_take T) (hr.mono (by decide)) (by rfl) T.m_l_take T.F_l_take.kp T.b_l_take .nil pass0 (pa_cons (pv 0) (pa_cons pe_int pa_nil))) pe_int) (pa_cons (pe_op op_mulW (pe_op op_pow pe_int pe_int) (pe_call (ok_l_take T) (hr.mono (by decide)) (by rfl) T.m_l_take T.F_l_take.kp T.b_l_take .nil pass0 (pa_cons (pv 0) (pa_cons pe_int pa_nil)))) (pa_cons pe_int pa_nil))))) (pv 3) (fun _ _ => rfl)))
 (pss_cons (ps_set (i := 8) sc_l_parts.nd rfl (Or.inl rfl) (pe_call (ok_l_take T) (hr.mono (by decide)) (by rfl) T.m_l_take T.F_l_take.kp T.b_l_take .nil pass0 (pa_cons (pv 0) (pa_cons (pv 6) pa_nil))))
 (pss_cons (ps_set (i := 9) sc_l_parts.nd rfl (Or.inl rfl) (pe_tup (pa_cons (pe_op op_mulW (pe_op op_add (pe_op op_mulW (pv 7) (pv 6)) (pv 8)) (pe_ix ix_tup (pv 1) pe_int (fun _ _ => rfl))) (pa_cons (pe_op op_mulW (pv 6) (pe_ix ix_tup (pv 1) pe_int (fun _ _ => rfl))) pa_nil))))
 (C8.pss_cut (ps_if (PW.pt (pw_and (pt_cmpR (op_neD hr.units) (pv 4) (pe_lst pa_nil) (nomark _)) (pw_and1 (pt_cmpR op_eq (pe_call (ok_l_take T) (hr.mono (by decide)) (by rfl) T.m_l_take T.F_l_take.kp T.b_l_take .nil pass0 (pa_cons (pv 0) (pa_cons pe_int pa_nil))) pe_int (nomark _)))))
  (pss_one (ps_set (i := 9) sc_l_parts.nd rfl (Or.inl rfl) (pe_ix ix_list (pv 4) (pe_call (ok_l_take T) (hr.mono (by decide)) (by rfl) T.m_l_take T.F_l_take.kp T.b_l_take .nil pass0 (pa_cons (pv 0) (pa_cons (pe_callB call_len_seq (by rfl) T.n_len PySem.boot_len (pa_cons (pv 4) pa_nil)) pa_nil))) (fun _ _ => rfl))))
  pss_nil)
 (pss_one (ps_expr (pe_bm PySem.F.plainAttrs_list PySem.F.slot_list_append PySem.F.type_list_append mt_append (pv 4) (pa_cons (pv 9) pa_nil))))))))))
 (pss_one (ps_ret (pv 4)))))), ?_⟩
    have E6' : (10 : Int) ^ 6 = 1000000 := rfl
    have E6 : (10 : Int) ^ (6 : Int).toNat = 1000000 := rfl
    rw [E6'] at hst hsb
    walk_at "rdh"
    refine rd_take w0 (by decide) (by decide) fun way H1 o1 w1 wa0 wa1 => ?_
    walk_at "rdh"
    refine r_new (by show 0 ≤ 1000; decide) fun D hD => ?_
    have sD := Same.new (o := .lst []) hD
    have Dd : D ≠ d := well_ne w1 hD
    walk_at "rdh"
    refine r_rng1 ?_
    walk_at "rdh"
    refine rd_take (w1.same sD) hm.1 (Nat.lt_of_lt_of_le (show most.natAbs < 2 ^ 4 by omega) (Nat.pow_le_pow_right (by decide) (by decide))) fun n H2 o2 w2 n0 n1 => ?_
    have oA : Out d H H2 := (o1.trans (Out.of sD)).trans o2
    have hD0 : H D = none := by
      cases e : H D with
      | none => rfl
      | some o => rw [o1 D o Dd e] at hD; cases hD
    walk_at "rdh"
    refine ⟨_, rfl, by omega, by omega, ?_⟩
    refine for_range (lo := 0) (n := (1 + n).toNat) (fun i σ H' => ∃ (v5 v6 v7 v8 v9 : Option V) (ts : List V) (ps : List (Int × Int)), σ = [some (.ref d), some (.ref s'), some (.int most), some (.int way), some (.ref D), v5, v6, v7, v8, v9] ∧ Out d H H' ∧ WellAt H' d ∧ H' D = some (.lst ts) ∧ TupsV pr H' ts ps ∧ ps.length = i ∧ (∀ x ∈ ps, OkP x)) ⟨none, none, none, none, none, [], [], rfl, oA, w2, o2 D _ Dd upd_same, TupsV.nil, rfl, (fun x hx => absurd hx List.not_mem_nil)⟩ ?_ ?_
    · rintro i σ H3 hi ⟨v5, v6, v7, v8, v9, ts, ps, rfl, o3, w3, h3, t3, pl, okp⟩
      have i12 : i < 12 := by omega
      have lts : ts.length = i := by rw [t3.1, pl]
      walk_at "rdh"
      refine r_new (by show 6 ≤ 1000; decide) fun l1 hl1 => ?_
      have sl1 := Same.new (o := .lst [.int 1, .int 2, .int 3, .int 10, .int 1000, .int 12]) hl1
      walk_at "rdh"
      refine rd_take (w3.same sl1) (by decide) (by decide) fun e1 H4 o4 w4 e10 e11 => ?_
      refine r_pick [1, 2, 3, 10, 1000, 12] (o4 l1 _ (well_ne w3 hl1) upd_same) e10 e11 fun dz hdz => ?_
      have dzb : 1 ≤ dz ∧ dz ≤ 1000 := by
        simp only [List.mem_cons, List.not_mem_nil, or_false] at hdz
        omega
      walk_at "rdh"
      refine rd_take w4 (by decide) (by decide) fun c1 H5 o5 w5 c10 c11 => ?_
      walk_at "rdh"
      refine rd_take w5 (by decide) (by decide) fun c2 H6 o6 w6 c20 c21 => ?_
      walk_at "rdh"
      rw [E6]
      refine rd_take w6 (by decide) (by decide) fun c3 H7 o7 w7 c30 c31 => ?_
      refine r_I (wide_mul (a := 20) (b := 4) (by decide) (by omega) (by decide) (by decide) (by decide)) ?_
      walk_at "rdh"
      refine r_new (by show 4 ≤ 1000; decide) fun l2 hl2 => ?_
      have sl2 := Same.new (o := .lst [.int c1, .int (c2 - 1000), .int (1000000 * c3), .int 0]) hl2
      walk_at "rdh"
      refine r_pick [c1, c2 - 1000, 1000000 * c3, 0] upd_same wa0 wa1 fun ct hct => ?_
      have ctb : ct.natAbs < 2 ^ 24 := by
        simp only [List.mem_cons, List.not_mem_nil, or_false] at hct
        omega
      walk_at "rdh"
      refine rd_take (w7.same sl2) (by omega) (Nat.lt_of_lt_of_le (show dz.natAbs < 2 ^ 10 by omega) (Nat.pow_le_pow_right (by decide) (by decide))) fun rs H8 o8 w8 rs0 rs1 => ?_
      have oB : Out d H3 H8 := (((Out.of sl1).trans o4).trans ((o5.trans o6).trans o7)).trans ((Out.of sl2).trans o8)
      have hs8 := oB.keep w3 (o3.keep w0 hs (fun _ z => by cases z)) (fun _ z => by cases z)
      walk_at "rdh"
      refine r_I (wide_mul (a := 24) (b := 10) ctb (by omega) (by decide) (by decide) (by decide)) ?_
      walk_at "rdh"
      refine r_ixT hs8 (atI_nat (j := 0) rfl) ?_
      have m1 := natAbs_mul_lt (a := ct) (b := dz) (m := 24) (n := 10) (k := 34) ctb (by omega) (by decide)
      have m2 : (ct * dz + rs).natAbs < 2 ^ 35 := by omega
      refine r_I (wide_mul (a := 35) (b := 20) m2 (by omega) (by decide) (by decide) (by decide)) ?_
      walk_at "rdh"
      refine r_ixT hs8 (atI_nat (j := 1) rfl) ?_
      refine r_I (wide_mul (a := 10) (b := 20) (by omega) (by omega) (by decide) (by decide) (by decide)) ?_
      walk_at "rdh"
      refine r_new (by show 2 ≤ 1000; decide) fun z hz => ?_
      have sz := Same.new (o := .tup [.int ((ct * dz + rs) * st), .int (dz * sb)]) hz
      have okz : OkP ((ct * dz + rs) * st, dz * sb) := by
        have q1 := natAbs_mul_lt (a := ct * dz + rs) (b := st) (m := 35) (n := 20) (k := 55) m2 (by omega) (by decide)
        have q2 := natAbs_mul_lt (a := dz) (b := sb) (m := 10) (n := 20) (k := 30) (by omega) (by omega) (by decide)
        have q3 : 0 < dz * sb := Int.mul_pos (by omega) hsb.1
        refine ⟨⟨q3, ?_⟩, Nat.lt_of_lt_of_le q1 (Nat.pow_le_pow_right (by decide) (by decide))⟩
        show dz * sb < 2 ^ 40
        omega
      have ez : upd H8 z (.tup [.int ((ct * dz + rs) * st), .int (dz * sb)]) z = some (.tup [.int ((ct * dz + rs) * st), .int (dz * sb)]) := upd_same
      have oC := oB.trans (Out.of sz)
      have w9 := w8.same sz
      generalize upd H8 z (.tup [.int ((ct * dz + rs) * st), .int (dz * sb)]) = H9 at *
      have h9 := oC D _ Dd h3
      have t9 := t3.out oC w3
      walk_at "rdh"
      refine r_cut (fun σ' H' => ∃ (v : Addr) (e : Int × Int), σ' = [some (.ref d), some (.ref s'), some (.int most), some (.int way), some (.ref D), some (.int (0 + (i : Int))), some (.int dz), some (.int ct), some (.int rs), some (.ref v)] ∧ Out d H3 H' ∧ WellAt H' d ∧ H' v = some (.tup (pr e)) ∧ OkP e) ?_ ?_
      · walk_at "rdh"
        refine r_new (by show 0 ≤ 1000; decide) fun g hg => ?_
        have sg := Same.new (o := .lst []) hg
        refine r_nePairs (sg _ _ h9) (t9.same sg) upd_same ?_
        walk_at "rdh"
        have w10 := w9.same sg
        have oD := oC.trans (Out.of sg)
        have ezg := sg _ _ ez
        have h10 := sg _ _ h9
        generalize upd H9 g (.lst []) = H10 at *
        refine r_ite (fun ne => ?_) (fun ne => ?_)
        · have ne' : ps ≠ [] := by simpa using ne
          have pp : 0 < ps.length := List.length_pos_iff.mpr ne'
          walk_at "rdh"
          refine rd_take w10 (by decide) (by decide) fun f1 H11 o11 w11 f10 f11 => ?_
          walk_at "rdh"
          refine r_ite (fun eq => ?_) (fun eq => ?_)
          · walk_at "rdh"
            have h11 := o11 D _ Dd h10
            refine ⟨D, ts, rfl, .inl (SqL.of h11), ?_⟩
            walk_at "rdh"
            refine rd_take w11 (by rw [lts]; omega) (Nat.lt_of_lt_of_le (show ((ts.length : Nat) : Int).natAbs < 2 ^ 4 by rw [lts]; omega) (Nat.pow_le_pow_right (by decide) (by decide))) fun at_ H12 o12 w12 at0 at1 => ?_
            have oE := (oD.trans o11).trans o12
            refine r_pickP (ps := ps) ⟨ts, oE D _ Dd h3, t3.out oE w3⟩ at0 (by rw [pl, ← lts]; exact at1) fun v e me hv => ?_
            walk_at "rdh"
            exact ⟨v, e, rfl, oE, w12, hv, okp e me⟩
          · walk_at "rdh"
            exact ⟨z, _, rfl, oD.trans o11, w11, o11.keep w10 ezg (fun _ q => by cases q), okz⟩
        · walk_at "rdh"
          exact ⟨z, _, rfl, oD, w10, ezg, okz⟩
      rintro σ' H10 ⟨v, e, rfl, oE, w10, hv, oke⟩
      have h10 := oE D _ Dd h3
      have t10 := t3.out oE w3
      walk_at "rdh"
      refine ⟨ty_list h10, ?_⟩
      walk_at "rdh"
      refine r_append h10 (by omega) ?_
      walk_at "rdh"
      refine ⟨_, _, _, _, _, ts ++ [.ref v], ps ++ [e], rfl, fun c o c1 q => ?_, ?_, upd_same, TupsV.put h10 (t10.push hv), by rw [List.length_append, pl]; rfl, fun x hx => ?_⟩
      · rw [upd_ne (ne_of_none q hD0)]
        exact (o3.trans oE) c o c1 q
      · obtain ⟨a, b, n, hw⟩ := w10
        exact ⟨a, b, n, by rw [upd_ne Dd.symm]; exact hw⟩
      · rcases List.mem_append.mp hx with hx | hx
        · exact okp x hx
        · rw [List.mem_singleton.mp hx]; exact oke
    · rintro σ H3 ⟨v5, v6, v7, v8, v9, ts, ps, rfl, o3, w3, h3, t3, pl, okp⟩
      walk_at "rdh"
      exact k D ps H3 o3 w3 ⟨ts, h3, t3⟩ hD0 (by omega) okp
end
end My

namespace My
open PySem L2
theorem range_nats (n : Nat) : rangeV 0 (n : Int) = (List.range n).map fun i : Nat => V.int (i : Int) := by
  unfold rangeV PyProof.Rows.rangeInts
  rw [List.map_map]
  have e : ((n : Int) - 0).toNat = n := by omega
  rw [e]
  refine List.map_congr_left fun i _ => ?_
  show V.int _ = V.int _
  congr 1
  show (0 : Int) + (i : Int) * 1 = (i : Int)
  omega
theorem ixN_nat {n b : Nat} (h : b < n) : ixN n (b : Int) = some b := by
  unfold ixN
  rw [if_pos (by omega), if_pos (by omega)]
  rfl
def intL (l : List Nat) : List Int := l.map fun i : Nat => (i : Int)
theorem intL_at {l : List Nat} {i : Nat} {x : V} (h : ((intL l).map V.int)[i]? = some x) : ∃ k : Nat, x = .int (k : Int) ∧ l[i]? = some k := by
  unfold intL at h
  rw [List.map_map, List.getElem?_map] at h
  cases e : l[i]? with
  | none => rw [e] at h; cases h
  | some k => rw [e] at h; exact ⟨k, (Option.some.inj h).symm, rfl⟩
theorem intL_get {l : List Nat} {i k : Nat} (h : l[i]? = some k) : (intL l)[i]? = some (k : Int) := by
  unfold intL
  rw [List.getElem?_map, h]
  rfl
theorem intL_len (l : List Nat) : (intL l).length = l.length := List.length_map _
theorem intL_erase (l : List Nat) (i : Nat) : (intL l).eraseIdx i = intL (l.eraseIdx i) := by
  unfold intL
  rw [List.eraseIdx_eq_take_drop_succ, List.eraseIdx_eq_take_drop_succ, List.map_append, List.map_take, List.map_drop]
theorem F_row {st sb : Int} (h : Stp st sb) {ps : List (Int × Int)} (hp : ∀ p ∈ ps, OkP p) {i : Nat} {e : Int × Int} (he : ps[i]? = some e) : FQ (ps.map (uQ st sb)) i = Rat.divInt (rowQ st sb e).2.1 (rowQ st sb e).2.2 ∧ fl (ps.map (uQ st sb)) i = (rowQ st sb e).1 := by
  have hu : (ps.map (uQ st sb))[i]? = some (uQ st sb e) := by rw [List.getElem?_map, he]; rfl
  have o := hp e (List.mem_of_getElem? he)
  rw [FQ_at hu, fl_at hu]
  exact ⟨part_row h o, fl_row h o⟩
theorem row_lt {st sb : Int} (h : Stp st sb) {p : Int × Int} (hp : OkP p) : (0 ≤ (rowQ st sb p).2.1 ∧ (rowQ st sb p).2.1.natAbs < 2 ^ 80) ∧ (0 < (rowQ st sb p).2.2 ∧ (rowQ st sb p).2.2.natAbs < 2 ^ 80) := by
  have a := under_pos h hp
  have b := under_lt h hp
  have c := Int.emod_nonneg (p.1 * sb) (show p.2 * st ≠ 0 by omega)
  have d := Int.emod_lt_of_pos (p.1 * sb) a
  show (0 ≤ p.1 * sb % (p.2 * st) ∧ (p.1 * sb % (p.2 * st)).natAbs < 2 ^ 80) ∧ (0 < p.2 * st ∧ (p.2 * st).natAbs < 2 ^ 80)
  omega
section
variable {P : Program} {w : World} {K : PySem.W.Frag} {mg : Str → Option Value} {base : Heap}
def spCounts : Sp := fun vs H Q _ => ∃ (p s : Addr) (ps : List (Int × Int)) (st sb : Int), vs = [.ref p, .ref s] ∧ PairsAt H p ps ∧ (H s = some (.tup [.int st, .int sb]) ∧ Stp st sb) ∧ (∀ x ∈ ps, OkP x) ∧ ps.length ≤ 40 ∧
  ∀ (r : Addr) (H' : Hp), Same H H' → H' r = some (.tup ((cntQ (ps.map (uQ st sb))).map V.int)) → Q (.ref r) H'
theorem ok_l_counts (T : Txt w K mg) : FnOk P w K mg base CX0 2 T.f_l_counts T.fd_l_counts ["_law_parts_here", "_law_by"] spCounts := by
  refine T.F_l_counts.ok sc_l_counts (fun vs H Q E h => ?_) (fun cdv A outer s H vs Q E hr h => ?_)
  · obtain ⟨p, s, ps, st, sb, rfl, _⟩ := h
    rfl
  · obtain ⟨p, s', ps, st, sb, rfl, hp, ⟨hs, hst⟩, hb, l40, k⟩ := h
    refine ⟨_, (pss_cons (ps_set (i := 2) sc_l_counts.nd rfl (Or.inl rfl) (pe_call (ok_l_beyond T) (hr.mono (by decide)) (by rfl) T.m_l_beyond T.F_l_beyond.kp T.b_l_beyond .nil pass0 (pa_cons (pv 0) (pa_cons (pv 1) pa_nil))))
 (pss_cons (ps_set (i := 3) sc_l_counts.nd rfl (Or.inl rfl) (pe_callTy (call_list_rng rfl) (by rfl) T.n_list (by decide +kernel) (pa_cons (pe_callTy cr_range1 (by rfl) T.n_range (by decide +kernel) (pa_cons (pe_callB call_len_seq (by rfl) T.n_len PySem.boot_len (pa_cons (pv 2) pa_nil)) pa_nil)) pa_nil)))
 (pss_cons (ps_setLc (i := 4) (own := [("_law_row", 8)]) (g := gName 8) (tt := tYes) rfl sc_l_counts.nd rfl rfl (sw_true rfl rfl rfl (by decide +kernel)) (pi_list (pv 2)) (blkOk_by (own := [("_law_row", 8)]) (N := ["_law_parts_here", "_law_by", "_law_rows", "_law_left", "_law_counts_here", "_law_turn", "_law_best", "_law_k", "_law_row"]) (sc := defScope s_l_counts) (by decide +kernel)) (fun _ _ _ _ _ => pg_name (i := 8) sc_l_counts.nd rfl (Or.inl rfl)) (fun _ _ _ _ _ => pts_nil) (fun _ _ _ _ _ => (pe_ix (ix_tupK (K0 := K) rfl) (pv 8) pe_int (fun _ _ => rfl))))
 (pss_cons (ps_for PassesOwn.never rfl (pi_range1 rfl T.n_range (pa_cons (pe_op op_sub (pe_call (ok_l_steps T) (hr.mono (by decide)) (by rfl) T.m_l_steps T.F_l_steps.kp T.b_l_steps .nil pass0 (pa_cons (pv 0) (pa_cons (pv 1) pa_nil))) (pe_callB (cr_sum rfl) (by rfl) T.n_sum (by decide +kernel) (pa_cons (pv 4) pa_nil))) pa_nil)) (pg_name (i := 5) sc_l_counts.nd rfl (Or.inl rfl))
  (pss_cons (ps_set (i := 6) sc_l_counts.nd rfl (Or.inl rfl) (pe_ix ix_list (pv 3) pe_int (fun _ _ => rfl)))
 (pss_cons (ps_for PassesOwn.never rfl (pi_list (pv 3)) (pg_name (i := 7) sc_l_counts.nd rfl (Or.inl rfl))
  (pss_one (ps_if (pt_cmpR op_gt (pe_op op_mulW (pe_ix ix_tup (pe_ix ix_list (pv 2) (pv 7) (fun _ _ => rfl)) pe_int (fun _ _ => rfl)) (pe_ix ix_tup (pe_ix ix_list (pv 2) (pv 6) (fun _ _ => rfl)) pe_int (fun _ _ => rfl))) (pe_op op_mulW (pe_ix ix_tup (pe_ix ix_list (pv 2) (pv 6) (fun _ _ => rfl)) pe_int (fun _ _ => rfl)) (pe_ix ix_tup (pe_ix ix_list (pv 2) (pv 7) (fun _ _ => rfl)) pe_int (fun _ _ => rfl))) (nomark _))
  (pss_one (ps_set (i := 6) sc_l_counts.nd rfl (Or.inl rfl) (pv 7)))
  pss_nil)))
 (pss_cons (ps_expr (pe_bm PySem.F.plainAttrs_list PySem.F.slot_list_remove PySem.F.type_list_remove mt_remove (pv 3) (pa_cons (pv 6) pa_nil)))
 (pss_one (ps_asg (pe_op op_add (pe_ix ix_list (pv 4) (pv 6) (fun _ _ => rfl)) pe_int) (pg_sub (pv 4) (pv 6) set_list)))))))
 (pss_one (ps_ret (pe_callTy call_tuple_of (by rfl) T.n_tuple (by decide +kernel) (pa_cons (pv 4) pa_nil)))))))), ?_⟩
    generalize hus : ps.map (uQ st sb) = us at *
    have ul : us.length = ps.length := by rw [← hus, List.length_map]
    have Frow : ∀ {i : Nat} {e : Int × Int}, ps[i]? = some e → FQ us i = Rat.divInt (rowQ st sb e).2.1 (rowQ st sb e).2.2 := fun {i e} he => by rw [← hus]; exact (F_row hst hb he).1
    walk_at "rdh"
    refine ⟨p, s', ps, st, sb, rfl, hp, ⟨hs, hst⟩, hb, l40, fun r H1 s1 ⟨rv, hrv, rt⟩ => ?_⟩
    have rl : rv.length = ps.length := by rw [rt.1, List.length_map]
    walk_at "rdh"
    refine ⟨r, rv, rfl, .inl (SqL.of hrv), ?_⟩
    walk_at "rdh"
    refine ⟨_, rfl, fun g hg => ?_⟩
    have sg := Same.new (o := .rng 0 (rv.length : Int)) hg
    have eg := upd_same (H := H1) (a := g) (o := HO.rng 0 (rv.length : Int))
    generalize upd H1 g (.rng 0 (rv.length : Int)) = Hg at *
    walk_at "rdh"
    refine ⟨g, 0, _, rfl, eg, ⟨by decide, by decide, by omega, by omega⟩, by omega, fun l hl => ?_⟩
    have sl := Same.new (o := .lst (rangeV 0 (rv.length : Int))) hl
    have s2 := sg.trans sl
    have el := upd_same (H := Hg) (a := l) (o := HO.lst (rangeV 0 (rv.length : Int)))
    have lr : l ≠ r := fun z => by rw [z, sg _ _ hrv] at hl; cases hl
    generalize upd Hg l (.lst (rangeV 0 (rv.length : Int))) = H2 at *
    have e0 : rangeV 0 (rv.length : Int) = (intL (leftL us 0)).map V.int := by
      rw [range_nats, left_zero, ul, ← rl]
      unfold intL
      rw [List.map_map]
      rfl
    rw [e0] at el
    have hrv2 := s2 _ _ hrv
    have rt2 := rt.same s2
    have s12 := s1.trans s2
    walk_at "rdh"
    refine r_lcL ?_
    walk_at "rdh"
    refine ⟨r, rfl, ⟨_, SqL.of hrv2⟩, fun D hD => ?_⟩
    have lD : l ≠ D := fun z => by rw [z] at el; rw [el] at hD; cases hD
    have rD : r ≠ D := fun z => by rw [z] at hrv2; rw [hrv2] at hD; cases hD
    refine lc_list (K := K) (a := r) (xs := rv) (fun j H' => Same H2 H' ∧ H' D = some (.lst (((us.map Rat.floor).take j).map V.int)) ∧ j ≤ rv.length) ⟨Same.new hD, upd_same, Nat.zero_le _⟩ (fun j H' _ ⟨s, _⟩ => SqL.of (s _ _ hrv2)) ?_ ?_
    · rintro j z H3 hz ⟨s3, hD3, jl⟩
      obtain ⟨q, x, rfl, ex, hq⟩ := rt2.2 j z hz
      have jl' : j < rv.length := (List.getElem?_eq_some_iff.mp hz).1
      rw [List.getElem?_map] at ex
      obtain ⟨e, ee, rfl⟩ : ∃ e, ps[j]? = some e ∧ rowQ st sb e = x := by
        cases h : ps[j]? with
        | none => rw [h] at ex; cases ex
        | some e => rw [h] at ex; exact ⟨e, rfl, Option.some.inj ex⟩
      have fe : (us.map Rat.floor)[j]? = some (rowQ st sb e).1 := by
        rw [← hus, List.map_map, List.getElem?_map, ee]
        exact congrArg some (fl_row hst (hb e (List.mem_of_getElem? ee)))
      walk_at "rdh"
      refine ⟨rfl, ?_⟩
      refine r_tyes ?_
      walk_at "rdh"
      refine r_ixT (s3 _ _ hq) (atI_nat (j := 0) rfl) ?_
      refine ⟨_, hD3, by rw [List.length_map, List.length_take]; exact Nat.lt_of_lt_of_le (show min j _ < 41 by omega) (by decide), ?_, ?_, by omega⟩
      · intro c o hc
        rw [upd_ne (ne_of_none hc hD)]
        exact s3 _ _ hc
      · rw [upd_same, List.take_add_one, fe, List.map_append]
        rfl
    rintro H3 ⟨s3, hD3, _⟩
    rw [List.take_of_length_le (by rw [List.length_map]; omega)] at hD3
    have s13 := s12.trans s3
    walk_at "rdh"
    refine r_rng1 ?_
    walk_at "rdh"
    refine ⟨p, s', ps, st, sb, rfl, hp.same s13, ⟨s13 _ _ hs, hst⟩, hb, l40, fun H4 s4 => ?_⟩
    rw [hus]
    walk_at "rdh"
    refine ⟨D, us.map Rat.floor, rfl, SqL.of (s4 _ _ hD3), ?_⟩
    have kE : takenQ .heven (sumQ us) - (us.map Rat.floor).sum = (kQ us : Int) := by
      have := k_left (us := us)
      unfold sumF at this
      omega
    have kn := k_len us
    walk_at "rdh"
    rw [kE]
    have hl4 := s4 _ _ (s3 _ _ el)
    have hr4 := s4 _ _ (s3 _ _ hrv2)
    have rt4 := rt2.same (s3.trans s4)
    have hD4 := s4 _ _ hD3
    rw [← mid_zero] at hD4
    have s14 := s13.trans s4
    have rowAt : ∀ {i : Nat}, i < us.length → ∃ (q : Addr) (e : Int × Int), rv[i]? = some (.ref q) ∧ ps[i]? = some e ∧ H4 q = some (.tup (tri (rowQ st sb e))) := fun {i} hi => by
      have ri : i < rv.length := by omega
      obtain ⟨q, x, eq, ex, hq⟩ := rt4.2 i rv[i] (List.getElem?_eq_getElem ri)
      rw [List.getElem?_map] at ex
      cases h : ps[i]? with
      | none => rw [h] at ex; cases ex
      | some e =>
        rw [h] at ex
        obtain rfl := Option.some.inj ex
        exact ⟨q, e, by rw [List.getElem?_eq_getElem ri, eq], rfl, hq⟩
    refine ⟨_, rfl, by omega, by omega, ?_⟩
    refine for_range (lo := 0) (n := kQ us) (fun j σ H' => ∃ v5 v6 v7 v8 : Option V, σ = [some (.ref p), some (.ref s'), some (.ref r), some (.ref l), some (.ref D), v5, v6, v7, v8] ∧ Off l D H4 H' ∧ H' l = some (.lst ((intL (leftL us j)).map V.int)) ∧ H' D = some (.lst ((midL us j).map V.int)) ∧ j ≤ kQ us) ⟨none, none, none, none, rfl, Off.refl _ _ _, hl4, hD4, Nat.zero_le _⟩ ?_ ?_
    · rintro j σ H5 hj ⟨v5, v6, v7, v8, rfl, o5, hl5, hD5, jk⟩
      have jn : j < us.length := by omega
      have l0 := left_ne jn
      have hr5 : H5 r = some (.lst rv) := o5 _ _ lr.symm rD hr4
      have rowAt5 : ∀ {i : Nat}, i < us.length → ∃ (q : Addr) (e : Int × Int), rv[i]? = some (.ref q) ∧ ps[i]? = some e ∧ H5 q = some (.tup (tri (rowQ st sb e))) := fun {i} hi => by
        obtain ⟨q, e, e1, e2, hq⟩ := rowAt hi
        exact ⟨q, e, e1, e2, o5 _ _ (ne_of hq hl4 (fun z => by cases z)) (ne_of hq hD4 (fun z => by cases z)) hq⟩
      have b0 := List.getElem?_eq_getElem l0
      walk_at "rdh"
      refine r_ixL hl5 (atI_nat (j := 0) (by rw [List.getElem?_map, intL_get b0]; rfl)) ?_
      walk_at "rdh"
      refine r_forL ?_
      walk_at "rdh"
      refine ⟨l, rfl, ⟨_, SqL.of hl5⟩, for_list (K := K) (a := l) (xs := (intL (leftL us j)).map V.int) (fun i σ H' => ∃ (b : Nat) (v7' : Option V), σ = [some (.ref p), some (.ref s'), some (.ref r), some (.ref l), some (.ref D), some (.int (0 + (j : Int))), some (.int (b : Int)), v7', v8] ∧ H' = H5 ∧ BestI us j i b) ⟨_, v7, rfl, rfl, ⟨0, b0, Nat.le_refl _⟩, fun m v hm => by omega⟩ (fun i σ H' _ ⟨_, _, _, e, _⟩ => by rw [e]; exact SqL.of hl5) ?_ ?_⟩
      · rintro i x σ H' hx ⟨b, v7', rfl, rfl, best⟩
        obtain ⟨kk, rfl, hk⟩ := intL_at hx
        have kl := left_mem.mp (List.mem_of_getElem? hk)
        obtain ⟨⟨bp, hbp, _⟩, _⟩ := id best
        have bl := left_mem.mp (List.mem_of_getElem? hbp)
        obtain ⟨q1, x1, r1, p1, t1⟩ := rowAt5 kl.1
        obtain ⟨q2, x2, r2, p2, t2⟩ := rowAt5 bl.1
        have d1 := row_lt hst (hb x1 (List.mem_of_getElem? p1))
        have d2 := row_lt hst (hb x2 (List.mem_of_getElem? p2))
        have f1 := Frow p1
        have f2 := Frow p2
        have st2 := best_step best hk
        rw [f1, f2, lt_cross d2.2.1 d1.2.1] at st2
        walk_at "rdh"
        refine r_ixL hr5 (atI_nat r1) ?_
        walk_at "rdh"
        refine r_ixT t1 (atI_nat (j := 1) rfl) ?_
        walk_at "rdh"
        refine r_ixL hr5 (atI_nat r2) ?_
        walk_at "rdh"
        refine r_ixT t2 (atI_nat (j := 2) rfl) ?_
        refine r_I (wide_mul d1.1.2 d2.2.2 (by decide) (by decide) (by decide)) ?_
        walk_at "rdh"
        refine r_ixL hr5 (atI_nat r2) ?_
        walk_at "rdh"
        refine r_ixT t2 (atI_nat (j := 1) rfl) ?_
        walk_at "rdh"
        refine r_ixL hr5 (atI_nat r1) ?_
        walk_at "rdh"
        refine r_ixT t1 (atI_nat (j := 2) rfl) ?_
        refine r_I (wide_mul d2.1.2 d1.2.2 (by decide) (by decide) (by decide)) ?_
        walk_at "rdh"
        refine r_ite (fun c => ?_) (fun c => ?_)
        · have c' := of_decide_eq_true c
          walk_at "rdh"
          exact ⟨kk, _, rfl, rfl, st2.1 c'⟩
        · have c' := of_decide_eq_false c
          walk_at "rdh"
          exact ⟨b, _, rfl, rfl, st2.2 (by omega)⟩
      · rintro σ H' ⟨b, v7', rfl, rfl, best⟩
        rw [List.length_map, intL_len] at best
        obtain ⟨rb, bn⟩ := best_end jn best
        obtain ⟨⟨bp, hbp, _⟩, _⟩ := id best
        obtain ⟨mb, ms⟩ := mid_step bn rb
        walk_at "rdh"
        refine ⟨ty_list hl5, ?_⟩
        walk_at "rdh"
        refine ⟨l, intL (leftL us j), (b : Int), bp, rfl, rfl, hl5, intL_get hbp, fun m hm z => ?_, ?_⟩
        · have hx : ((intL (leftL us j)).map V.int)[m]? = some (.int (b : Int)) := by rw [List.getElem?_map, z]; rfl
          obtain ⟨k', ek, hk'⟩ := intL_at hx
          have : k' = b := by
            have := V.int.inj ek
            omega
          subst this
          exact left_first hbp hm hk'
        · rw [intL_erase, left_erase hbp rb bn]
          have hD6 : upd H' l (.lst ((intL (leftL us (j + 1))).map V.int)) D = some (.lst ((midL us j).map V.int)) := by rw [upd_ne lD.symm]; exact hD5
          have hl6 := upd_same (H := H') (a := l) (o := HO.lst ((intL (leftL us (j + 1))).map V.int))
          have o6 : Off l D H4 (upd H' l (.lst ((intL (leftL us (j + 1))).map V.int))) := fun c o c1 c2 e => by rw [upd_ne c1]; exact o5 c o c1 c2 e
          generalize upd H' l (.lst ((intL (leftL us (j + 1))).map V.int)) = H6 at *
          walk_at "rdh"
          refine r_ixL hD6 (atI_nat (j := b) (by rw [List.getElem?_map, mb]; rfl)) ?_
          walk_at "rdh"
          refine r_setL hD6 (j := b) (ixN_nat (by rw [List.length_map, mid_len]; exact bn)) ?_
          refine ⟨_, _, _, _, rfl, fun c o c1 c2 e => ?_, ?_, ?_, by omega⟩
          · rw [upd_ne c2]; exact o6 c o c1 c2 e
          · rw [upd_ne lD]; exact hl6
          · rw [upd_same, ← ms, List.map_set]
    · rintro σ H5 ⟨v5, v6, v7, v8, rfl, o5, hl5, hD5, _⟩
      rw [mid_end] at hD5
      walk_at "rdh"
      refine ⟨D, _, rfl, .inl ⟨SqL.of hD5, fun t ht => ?_⟩⟩
      refine k t _ (fun c o hc => ?_) upd_same
      have cl : c ≠ l := ne_of_none (sg _ _ (s1 _ _ hc)) hl
      have cD : c ≠ D := ne_of_none (s12 _ _ hc) hD
      have c5 := o5 c o cl cD (s14 _ _ hc)
      rw [upd_ne (ne_of_none c5 ht)]
      exact c5
end
end My

namespace My
open PySem L2
def farI (r : Int × Int × Int) (wq : Rat) : Int := r.2.1 * (wq.den : Int) - wq.num * r.2.2
/-- the law's own look at a count: a fault -/
def faultB (r : Int × Int × Int) (c : Int) (wq : Rat) : Bool := (decide (c = r.1) && (decide (0 < r.2.1) && decide (0 < farI r wq))) || (decide (c = r.1 + 1) && (decide (r.2.1 = 0) || decide (farI r wq < 0)))
def nearI (r : Int × Int × Int) (c : Int) : Bool := decide (c = r.1) || decide (c = r.1 + 1)
theorem look_put {st sb : Int} (hst : Stp st sb) {e : Int × Int} (he : OkP e) (c : Int) (wq : Rat) : putB (uQ st sb e) c wq = (!faultB (rowQ st sb e) c wq && nearI (rowQ st sb e) c) := by
  have f := fl_row hst he
  have p := part_row hst he
  have d := row_lt hst he
  have g := part_ge (uQ st sb e)
  have l := part_lt (uQ st sb e)
  have dw : (0 : Int) < (wq.den : Int) := by have := wq.den_pos; omega
  have ew : Rat.divInt wq.num (wq.den : Int) = wq := Rat.num_divInt_den wq
  have l1 := lt_cross (a := wq.num) (b := (wq.den : Int)) (c := (rowQ st sb e).2.1) (d := (rowQ st sb e).2.2) dw d.2.1
  have l2 := lt_cross (a := (rowQ st sb e).2.1) (b := (rowQ st sb e).2.2) (c := wq.num) (d := (wq.den : Int)) d.2.1 dw
  rw [ew, ← p] at l1 l2
  have pz := div_pos_iff (a := (rowQ st sb e).2.1) (b := (rowQ st sb e).2.2) d.2.1
  rw [← p] at pz
  have r0 := d.1.1
  have u_eq : uQ st sb e = ((uQ st sb e).floor : Rat) + partQ (uQ st sb e) := by unfold partQ; grind
  rw [f] at u_eq
  have fI : (0 < farI (rowQ st sb e) wq ↔ wq < partQ (uQ st sb e)) ∧ (farI (rowQ st sb e) wq < 0 ↔ partQ (uQ st sb e) < wq) := by
    unfold farI
    constructor
    · rw [l1]; omega
    · rw [l2]; omega
  unfold putB faultB nearI
  generalize farI (rowQ st sb e) wq = fa at *
  generalize partQ (uQ st sb e) = q at *
  generalize uQ st sb e = u at *
  generalize rowQ st sb e = row at *
  subst u_eq
  obtain ⟨fl, re, un⟩ := row
  dsimp only at *
  by_cases c0 : c = fl
  · subst c0
    have e1 : ((c : Int) : Rat) + q - ((c : Int) : Rat) = q := by grind
    rw [e1]
    have n1 : ¬ c = c + 1 := by omega
    by_cases z : re = 0
    · have qz : q = 0 := by
        have : ¬ 0 < q := fun h => by have := pz.mp h; omega
        grind
      subst qz
      have z0 : ¬ (0 : Int) < re := by omega
      simp [z, n1]
    · have zp : 0 < re := by omega
      have qp := pz.mpr zp
      rw [if_neg (num_ne (by grind)), if_pos (num_posQ.mpr qp)]
      by_cases h : 0 < fa
      · have := fI.1.mp h
        simp [l, this, zp, h, n1]
      · have : ¬ wq < q := fun x => h (fI.1.mpr x)
        simp [l, this, zp, h, n1]
  · by_cases c1 : c = fl + 1
    · subst c1
      have e1 : ((fl : Int) : Rat) + q - ((fl + 1 : Int) : Rat) = q - 1 := by rw [Rat.intCast_add]; show (fl : Rat) + q - ((fl : Rat) + 1) = _; grind
      have e2 : q - 1 + 1 = q := by grind
      rw [e1, e2, if_neg (num_ne (by grind)), if_neg (fun z => by have := num_posQ.mp z; grind)]
      have n2 : ¬ fl + 1 = fl := by omega
      by_cases z : re = 0
      · have qz : ¬ 0 < q.num := fun h => by have := pz.mp (num_posQ.mp h); omega
        simp [qz, z]
      · have qp : 0 < q.num := num_posQ.mpr (pz.mpr (by omega))
        by_cases h : fa < 0
        · have := fI.2.mp h
          simp [qp, this, h]
        · have : ¬ q < wq := fun x => h (fI.2.mpr x)
          simp [qp, this, z, h, n2]
    · have r2 : ((if (((fl : Int) : Rat) + q - ((c : Int) : Rat)).num = 0 then true
  else if 0 < (((fl : Int) : Rat) + q - ((c : Int) : Rat)).num then decide (((fl : Int) : Rat) + q - ((c : Int) : Rat) < 1) && !decide (wq < ((fl : Int) : Rat) + q - ((c : Int) : Rat))
  else decide (0 < (((fl : Int) : Rat) + q - ((c : Int) : Rat) + 1).num) && !decide (((fl : Int) : Rat) + q - ((c : Int) : Rat) + 1 < wq)) = false) := by
        by_cases lo : c < fl
        · have h1 : ((c + 1 : Int) : Rat) ≤ ((fl : Int) : Rat) := Rat.intCast_le_intCast.mpr (by omega)
          rw [Rat.intCast_add] at h1
          have h1' : (c : Rat) + 1 ≤ (fl : Rat) := h1
          rw [if_neg (num_ne (by grind)), if_pos (num_posQ.mpr (by grind)), decide_eq_false (by grind), Bool.false_and]
        · have h1 : ((fl + 2 : Int) : Rat) ≤ ((c : Int) : Rat) := Rat.intCast_le_intCast.mpr (by omega)
          rw [Rat.intCast_add] at h1
          have h1' : (fl : Rat) + 2 ≤ (c : Rat) := h1
          rw [if_neg (num_ne (by grind)), if_neg (fun z => by have := num_posQ.mp z; grind), decide_eq_false (fun z => by have := num_posQ.mp z; grind), Bool.false_and]
      rw [r2]
      simp [c0, c1]
section
variable {P : Program} {w : World} {K : PySem.W.Frag} {mg : Str → Option Value} {base : Heap}
def spLHoldsT (C : Addr) : Sp := fun vs H Q _ => ∃ (p s d : Addr) (v : V) (tt : Tg) (ps : List (Int × Int)) (st sb : Int), vs = [.ref p, .ref s, v] ∧ PairsAt H p ps ∧ (H s = some (.tup [.int st, .int sb]) ∧ Stp st sb) ∧ (∀ x ∈ ps, OkP x) ∧ ps.length ≤ 40 ∧
  TgAt C d H v tt ∧ BoundT tt ∧ ∀ (H' : Hp), Same H H' → Q (.bl (putT (ps.map (uQ st sb)) (fun c => decide (c = takenQ .heven (sumQ (ps.map (uQ st sb))))) tt)) H'
theorem ok_l_holds (T : Txt w K mg) : FnOk P w K mg base CX0 2 T.f_l_holds T.fd_l_holds ["_law_parts_here", "_law_by", "_law_thing"] (spLHoldsT T.C_Number) := by
  refine T.F_l_holds.ok sc_l_holds (fun vs H Q E h => ?_) (fun cdv A outer s H vs Q E hr h => ?_)
  · obtain ⟨p, s, d, v, tt, ps, st, sb, rfl, _⟩ := h
    rfl
  · obtain ⟨p, s', d, v, tt, ps, st, sb, rfl, hp, ⟨hs, hst⟩, hb, l40, ha, hbt, k⟩ := h
    refine ⟨_, (pss_cons (ps_if (PW.pt (pw_or (pt_not (pt_val (pe_callB call_isi (by rfl) T.n_isinstance (by decide +kernel) (pa_cons (pv 2) (pa_cons (pe_bltn (v := .ty "tuple") (by rfl) T.n_tuple (by decide +kernel) rfl) pa_nil))))) (pw_or (pt_cmpR op_ne (pe_callB call_len_seq (by rfl) T.n_len PySem.boot_len (pa_cons (pv 2) pa_nil)) pe_int (nomark _)) (pw_or1 (pt_not (pt_val (pe_callB call_isi (by rfl) T.n_isinstance (by decide +kernel) (pa_cons (pe_ix ix_tup (pv 2) pe_int (fun _ _ => rfl)) (pa_cons (pe_bltn (v := .ty "tuple") (by rfl) T.n_tuple (by decide +kernel) rfl) pa_nil)))))))))
  (pss_one (ps_ret pe_bl))
  pss_nil)
 (pss_cons (ps_asg (pv 2) (pg_tup rfl (pgs_cons (pg_name (i := 3) sc_l_holds.nd rfl (Or.inl rfl)) (pgs_cons (pg_name (i := 4) sc_l_holds.nd rfl (Or.inl rfl)) pgs_nil))))
 (pss_cons (ps_if (PW.pt (pw_or (pt_not (pt_val (pe_callB call_isi (by rfl) T.n_isinstance (by decide +kernel) (pa_cons (pv 4) (pa_cons (pe_glob (v := .ref T.C_Number) (by rfl) T.m_Number rfl) pa_nil))))) (pw_or (pt_not (pt_chain op_le op_le pe_int (pe_fld (pv 4) rfl) (pe_fld (pv 4) rfl))) (pw_or1 (pt_cmpR op_ne (pe_callB call_len_seq (by rfl) T.n_len PySem.boot_len (pa_cons (pv 3) pa_nil)) (pe_callB call_len_seq (by rfl) T.n_len PySem.boot_len (pa_cons (pv 0) pa_nil)) (nomark _))))))
  (pss_one (ps_ret pe_bl))
  pss_nil)
 (pss_cons (ps_if (pt_cmpR (op_neNil hr.units) (pe_lc (own := [("_law_one", 5)]) (g := gName 5) rfl sc_l_holds.nd (pi_tup (pv 3)) (blkOk_by (own := [("_law_one", 5)]) (N := ["_law_parts_here", "_law_by", "_law_thing", "_law_counts_here", "_law_paper", "_law_one", "_law_row", "_law_far"]) (sc := defScope s_l_holds) (by decide +kernel)) (fun _ _ _ _ _ => pg_name (i := 5) sc_l_holds.nd rfl (Or.inl rfl)) (fun _ _ _ _ _ => (pts_one (PW.pt (pw_or (pt_not (pt_val (pe_callB (call_isiK (K0 := K) rfl) (by rfl) T.n_isinstance (by decide +kernel) (pa_cons (pv 5) (pa_cons (pe_bltn (v := .ty "int") (by rfl) T.n_int (by decide +kernel) rfl) pa_nil))))) (pw_or1 (pt_val (pe_callB (call_isiK (K0 := K) rfl) (by rfl) T.n_isinstance (by decide +kernel) (pa_cons (pv 5) (pa_cons (pe_bltn (v := .ty "bool") (by rfl) T.n_bool (by decide +kernel) rfl) pa_nil))))))))) (fun _ _ _ _ _ => (pv 5))) (pe_lst pa_nil) (nomark _))
  (pss_one (ps_ret pe_bl))
  pss_nil)
 (pss_cons (ps_for PassesOwn.never rfl (pi_zipM (by rfl) T.n_zip (pa_cons (pv 3) (pa_cons (pe_call (ok_l_beyond T) (hr.mono (by decide)) (by rfl) T.m_l_beyond T.F_l_beyond.kp T.b_l_beyond .nil pass0 (pa_cons (pv 0) (pa_cons (pv 1) pa_nil))) pa_nil))) (pg_tup rfl (pgs_cons (pg_name (i := 5) sc_l_holds.nd rfl (Or.inl rfl)) (pgs_cons (pg_name (i := 6) sc_l_holds.nd rfl (Or.inl rfl)) pgs_nil)))
  (pss_cons (ps_set (i := 7) sc_l_holds.nd rfl (Or.inl rfl) (pe_op op_sub (pe_op op_mulW (pe_ix ix_tup (pv 6) pe_int (fun _ _ => rfl)) (pe_fld (pv 4) rfl)) (pe_op op_mulW (pe_fld (pv 4) rfl) (pe_ix ix_tup (pv 6) pe_int (fun _ _ => rfl)))))
 (C8.pss_cut (ps_if (PW.pt (pw_or (PW.pt (pw_and (pt_cmpR op_eq (pv 5) (pe_ix ix_tup (pv 6) pe_int (fun _ _ => rfl)) (nomark _)) (pw_and (pt_cmpR op_gt (pe_ix ix_tup (pv 6) pe_int (fun _ _ => rfl)) pe_int (nomark _)) (pw_and1 (pt_cmpR op_gt (pv 7) pe_int (nomark _)))))) (pw_or1 (PW.pt (pw_and (pt_cmpR op_eq (pv 5) (pe_op op_add (pe_ix ix_tup (pv 6) pe_int (fun _ _ => rfl)) pe_int) (nomark _)) (pw_and1 (PW.pt (pw_or (pt_cmpR op_eq (pe_ix ix_tup (pv 6) pe_int (fun _ _ => rfl)) pe_int (nomark _)) (pw_or1 (pt_cmpR op_lt (pv 7) pe_int (nomark _)))))))))))
  (pss_one (ps_ret pe_bl))
  pss_nil)
 (pss_one (ps_if (pt_cmpR op_notIn_seq (pv 5) (pe_tup (pa_cons (pe_ix ix_tup (pv 6) pe_int (fun _ _ => rfl)) (pa_cons (pe_op op_add (pe_ix ix_tup (pv 6) pe_int (fun _ _ => rfl)) pe_int) pa_nil))) (by rfl))
  (pss_one (ps_ret pe_bl))
  pss_nil)))))
 (pss_one (ps_ret (pe_cmpR op_eq (pe_callB (cr_sumT rfl) (by rfl) T.n_sum (by decide +kernel) (pa_cons (pv 3) pa_nil)) (pe_call (ok_l_steps T) (hr.mono (by decide)) (by rfl) T.m_l_steps T.F_l_steps.kp T.b_l_steps .nil pass0 (pa_cons (pv 0) (pa_cons (pv 1) pa_nil))) (nomark _))))))))), ?_⟩
    have cN := T.c_Number
    have nT := T.n_Number_top
    have nB := T.n_Number_bottom
    obtain ⟨pv, hpv, hpt⟩ := id hp
    have pl := hpt.1
    have no : toldT ps.length tt = false → ∀ H' : Hp, Same H H' → Q (.bl false) H' := fun z H' s => by
      have := k H' s
      rw [put_no (by rw [List.length_map]; exact z)] at this
      exact this
    walk_at "rdh"
    refine ha.tuple? T ?_
    walk_at "rdh"
    refine r_ite (fun i0 => ?_) (fun i0 => ?_)
    · rw [Bool.not_eq_true'] at i0
      refine r_iteT rfl ?_
      walk_at "rdh"
      exact no (told_isT i0) _ (Same.refl _)
    rw [Bool.not_eq_false'] at i0
    cases ha with
    | tup ht hx => ?_
    | _ => cases i0
    rename_i t vs ts
    have len := hx.len
    walk_at "rdh"
    refine ⟨t, _, rfl, .inr (SqT.of ht), ?_⟩
    walk_at "rdh"
    refine r_ite (fun i1 => ?_) (fun i1 => ?_)
    · have : vs.length ≠ 2 := fun z => by simp [z] at i1
      refine r_iteT rfl ?_
      walk_at "rdh"
      exact no (told_two (by rw [← len]; exact this)) _ (Same.refl _)
    have l2 : vs.length = 2 := by
      have : (vs.length : Int) = 2 := by simpa using i1
      omega
    obtain ⟨v0, v1, rfl⟩ : ∃ a b, vs = [a, b] := by
      match vs, l2 with
      | [a, b], _ => exact ⟨a, b, rfl⟩
    cases hx with
    | cons h0 hx => ?_
    cases hx with
    | cons h1 hx => ?_
    cases hx with
    | nil => ?_
    rename_i t0 t1
    walk_at "rdh"
    refine r_ixT ht (atI_nat (j := 0) rfl) ?_
    walk_at "rdh"
    refine h0.tuple? T ?_
    walk_at "rdh"
    refine r_ite (fun i2 => ?_) (fun i2 => ?_)
    · rw [Bool.not_eq_true'] at i2
      walk_at "rdh"
      exact no (told_a i2) _ (Same.refl _)
    rw [Bool.not_eq_false'] at i2
    cases h0 with
    | tup hp2 hb2 => ?_
    | _ => cases i2
    rename_i p2 us cts
    have lq := hb2.len
    walk_at "rdh"
    refine r_gTup ht rfl ?_
    walk_at "rdh"
    refine h1.num? T ?_
    walk_at "rdh"
    refine r_ite (fun i5 => ?_) (fun i5 => ?_)
    · rw [Bool.not_eq_true'] at i5
      refine r_iteT rfl ?_
      walk_at "rdh"
      exact no (told_b i5) _ (Same.refl _)
    rw [Bool.not_eq_false'] at i5
    cases h1 with
    | num hq => ?_
    | _ => cases i5
    rename_i q wq
    obtain ⟨dq, eq0⟩ := id hq
    have nr : inR wq = false → ∀ H' : Hp, Same H H' → Q (.bl false) H' := fun z => no (by
      show (decide (cts.length = ps.length) && (cts.all Tg.isW && inR wq)) = false
      rw [z]; simp)
    walk_at "rdh"
    refine r_chainQ ?_
    walk_at "rdf"
    refine r_ite (fun w0 => ?_) (fun w0 => ?_)
    rotate_left
    · walk_at "rdh"
      refine r_iteT rfl ?_
      walk_at "rdh"
      exact nr (by unfold inR; rw [w0]; rfl) _ (Same.refl _)
    walk_at "rdf"
    refine r_ite (fun w1 => ?_) (fun w1 => ?_)
    · have w1' : decide (wq.num ≤ (wq.den : Int)) = false := by rw [Bool.not_eq_true'] at w1; exact w1
      walk_at "rdh"
      exact nr (by unfold inR; rw [w1']; simp) _ (Same.refl _)
    have w1' : decide (wq.num ≤ (wq.den : Int)) = true := by rw [Bool.not_eq_false'] at w1; exact w1
    have iw : inR wq = true := by unfold inR; rw [w0, w1']; rfl
    walk_at "rdh"
    refine ⟨p2, _, rfl, .inr (SqT.of hp2), ?_⟩
    walk_at "rdh"
    refine ⟨p, pv, rfl, .inl (SqL.of hpv), ?_⟩
    walk_at "rdh"
    refine r_ite (fun i3 => ?_) (fun i3 => ?_)
    · have : cts.length ≠ ps.length := fun z => by
        have e : us.length = pv.length := by rw [lq, z, pl]
        rw [e] at i3
        simp at i3
      walk_at "rdh"
      exact no (told_n this) _ (Same.refl _)
    have l3 : cts.length = ps.length := by
      have : (us.length : Int) = (pv.length : Int) := by simpa using i3
      omega
    obtain ⟨z1, z2, z3⟩ := hb2.zip
    walk_at "rdh"
    refine r_lcT ?_
    walk_at "rdh"
    refine ⟨p2, rfl, ⟨_, SqT.of hp2⟩, fun D hD => ?_⟩
    have hq' : H p2 = some (.tup ((us.zip cts).map Prod.fst)) := by rw [z1]; exact hp2
    have zl : (us.zip cts).length ≤ 1000 := by rw [List.length_zip]; omega
    refine lcT_of (K := K) (zs := us.zip cts) (el := Prod.fst) (e := Prod.fst) (f := fun z => !z.2.isW) (SqT.of hq') zl hD (i := 5) (fun z H1 R _ h => ?_) (fun v => rfl) (fun z H1 R hz s1 h => ?_) (fun z H1 R _ _ s1 h => ?_) fun H1 s1 hD1 => ?_
    · walk_at "rdh"
      exact h
    · rw [Tg.isW_eq] at h
      walk_at "rdh"
      refine ((z3 z hz).same s1).int? T ?_
      walk_at "rdh"
      refine r_ite (fun i => ?_) (fun i => ?_)
      · rw [Bool.not_eq_true'] at i
        rw [i] at h
        exact h H1 (Same.refl _)
      · rw [Bool.not_eq_false'] at i
        rw [i] at h
        walk_at "rdh"
        refine ((z3 z hz).same s1).bool? T ?_
        walk_at "rdh"
        simp only [Bool.true_and, Bool.not_not] at h
        exact h H1 (Same.refl _)
    · walk_at "rdh"
      exact h H1 (Same.refl _)
    walk_at "rdh"
    refine r_new (by show 0 ≤ 1000; decide) fun g hg => ?_
    have sg := Same.new (o := .lst []) hg
    refine r_neNil (SqL.of (sg _ _ hD1)) (SqL.of upd_same) ?_
    have s2 := s1.trans sg
    generalize upd H1 g (.lst []) = H2 at *
    walk_at "rdh"
    refine r_ite (fun i6 => ?_) (fun i6 => ?_)
    · have : cts.all Tg.isW = false := Bool.eq_false_iff.mpr fun z => by
        have e : (us.zip cts).filter (fun z => !z.2.isW) = [] := by
          rw [List.filter_eq_nil_iff]
          intro x hx
          have m : x.2 ∈ cts := by rw [← z2]; exact List.mem_map_of_mem hx
          rw [List.all_eq_true.mp z _ m]
          simp
        rw [e] at i6
        cases i6
      walk_at "rdh"
      exact no (told_w this) _ s2
    have aw : cts.all Tg.isW = true := by
      rw [List.all_eq_true]
      intro x hx
      have e : (us.zip cts).filter (fun z => !z.2.isW) = [] := by
        cases h : (us.zip cts).filter (fun z => !z.2.isW) with
        | nil => rfl
        | cons a b => rw [h] at i6; cases i6
      rw [List.filter_eq_nil_iff] at e
      rw [← z2] at hx
      obtain ⟨y, hy, rfl⟩ := List.mem_map.mp hx
      have := e y hy
      simpa using this
    obtain ⟨cs, rfl⟩ := ints_of aw
    have eus := ints_at hb2
    subst eus
    have cl : cs.length = ps.length := by rw [List.length_map] at l3; exact l3
    obtain ⟨cb, wb⟩ := hbt cs wq rfl
    rw [put_told66 (by rw [List.length_map]; exact cl) iw] at k
    walk_at "rdh"
    refine r_forZM ?_
    walk_at "rdh"
    refine ⟨p, s', ps, st, sb, rfl, hp.same s2, ⟨s2 _ _ hs, hst⟩, hb, l40, fun r H3 s3 ⟨rv, hrv, rt⟩ => ?_⟩
    have s13 := s2.trans s3
    have rl : rv.length = ps.length := by rw [rt.1, List.length_map]
    walk_at "rdh"
    refine ⟨p2, r, _, rv, rfl, SqT.of (s13 _ _ hp2), SqL.of hrv, ?_⟩
    refine for_zipM (K := K) (by rw [List.length_map, cl, rl]) (fun i σ H' => ∃ v5 v6 v7 : Option V, σ = [some (.ref p), some (.ref s'), some (.ref t), some (.ref p2), some (.ref q), v5, v6, v7] ∧ Same H3 H' ∧ ∀ (j : Nat) (u : Rat) (c : Int), j < i → (ps.map (uQ st sb))[j]? = some u → cs[j]? = some c → putB u c wq = true) ⟨none, none, none, rfl, Same.refl _, fun j u c hj => by omega⟩ (fun i σ H' ⟨_, _, _, _, s4, _⟩ => ⟨SqT.of (s4 _ _ (s13 _ _ hp2)), SqL.of (s4 _ _ hrv)⟩) ?_ ?_
    · rintro i x z a σ H4 hx hz ⟨v5, v6, v7, rfl, s4, put⟩ ha
      obtain ⟨c, rfl, ec⟩ : ∃ c : Int, x = .int c ∧ cs[i]? = some c := by
        rw [List.getElem?_map] at hx
        cases h : cs[i]? with
        | none => rw [h] at hx; cases hx
        | some c => rw [h] at hx; exact ⟨c, (Option.some.inj hx).symm, rfl⟩
      obtain ⟨qr, xr, rfl, ex, hqr⟩ := rt.2 i z hz
      obtain ⟨e, ee, rfl⟩ : ∃ e, ps[i]? = some e ∧ rowQ st sb e = xr := by
        rw [List.getElem?_map] at ex
        cases h : ps[i]? with
        | none => rw [h] at ex; cases ex
        | some e => rw [h] at ex; exact ⟨e, rfl, Option.some.inj ex⟩
      have oe := hb e (List.mem_of_getElem? ee)
      have eu : (ps.map (uQ st sb))[i]? = some (uQ st sb e) := by rw [List.getElem?_map, ee]; rfl
      have lp := look_put hst oe c wq
      have d := row_lt hst oe
      have sa := Same.new (o := .tup [.int c, .ref qr]) ha
      refine r_gTup upd_same rfl ?_
      have s5 := s4.trans sa
      generalize upd H4 a (.tup [.int c, .ref qr]) = H5 at *
      have hq5 := s5 _ _ hqr
      have eq5 := s5 _ _ (s13 _ _ eq0)
      generalize rowQ st sb e = row at *
      have db : ((wq.den : Nat) : Int).natAbs < 2 ^ 1000 := by rw [Int.natAbs_natCast]; exact wb.2
      have bad : putB (uQ st sb e) c wq = false → ∀ H' : Hp, Same H5 H' → Q (.bl false) H' := fun z H' s' => by
        have := k H' ((s13.trans s5).trans s')
        rw [put_not eu ec z, Bool.false_and] at this
        exact this
      walk_at "rdh"
      refine r_ixT hq5 (atI_nat (j := 1) rfl) ?_
      walk_at "rdf"
      refine r_I (wide_mul d.1.2 db (by decide) (by decide) (by decide)) ?_
      walk_at "rdf"
      refine r_ixT hq5 (atI_nat (j := 2) rfl) ?_
      refine r_I (wide_mul wb.1 d.2.2 (by decide) (by decide) (by decide)) ?_
      walk_at "rdh"
      have faE : row.2.1 * (wq.den : Int) - wq.num * row.2.2 = farI row wq := rfl
      rw [faE]
      refine r_cut (fun σ' H' => σ' = [some (.ref p), some (.ref s'), some (.ref t), some (.ref p2), some (.ref q), some (.int c), some (.ref qr), some (.int (farI row wq))] ∧ H' = H5 ∧ faultB row c wq = false) ?_ ?_
      · have two : decide (c = row.1) = true → decide (c = row.1 + 1) = false := fun z => by
          have := of_decide_eq_true z
          exact decide_eq_false (by omega)
        unfold faultB at lp ⊢
        walk_at "rdh"
        refine r_ixT hq5 (atI_nat (j := 0) rfl) ?_
        walk_at "rdh"
        refine r_ite (fun b1 => ?_) (fun b1 => ?_)
        · have b4 := two b1
          rw [b1, b4] at lp ⊢
          walk_at "rdh"
          refine r_ixT hq5 (atI_nat (j := 1) rfl) ?_
          walk_at "rdh"
          refine r_ite (fun b2 => ?_) (fun b2 => ?_)
          · rw [b2] at lp ⊢
            walk_at "rdh"
            refine r_ite (fun b3 => ?_) (fun b3 => ?_)
            · rw [b3] at lp
              refine r_iteT rfl ?_
              walk_at "rdh"
              exact bad (by rw [lp]; rfl) _ (Same.refl _)
            · rw [b3]
              walk_at "rdh"
              refine r_ixT hq5 (atI_nat (j := 0) rfl) ?_
              walk_at "rdh"
              refine r_iteF b4 ?_
              refine r_iteF rfl ?_
              walk_at "rdh"
              exact ⟨rfl, rfl, rfl⟩
          · rw [b2]
            refine r_iteF rfl ?_
            walk_at "rdh"
            refine r_ixT hq5 (atI_nat (j := 0) rfl) ?_
            walk_at "rdh"
            refine r_iteF b4 ?_
            refine r_iteF rfl ?_
            walk_at "rdh"
            exact ⟨rfl, rfl, rfl⟩
        · rw [b1] at lp ⊢
          refine r_iteF rfl ?_
          walk_at "rdh"
          refine r_ixT hq5 (atI_nat (j := 0) rfl) ?_
          walk_at "rdh"
          refine r_ite (fun b4 => ?_) (fun b4 => ?_)
          · rw [b4] at lp ⊢
            walk_at "rdh"
            refine r_ixT hq5 (atI_nat (j := 1) rfl) ?_
            walk_at "rdh"
            refine r_ite (fun b2 => ?_) (fun b2 => ?_)
            · rw [b2] at lp
              refine r_iteT rfl ?_
              walk_at "rdh"
              exact bad (by rw [lp]; rfl) _ (Same.refl _)
            · rw [b2] at lp ⊢
              walk_at "rdh"
              refine r_ite (fun b3 => ?_) (fun b3 => ?_)
              · rw [b3] at lp
                walk_at "rdh"
                exact bad (by rw [lp]; rfl) _ (Same.refl _)
              · rw [b3]
                walk_at "rdh"
                exact ⟨rfl, rfl, rfl⟩
          · rw [b4]
            refine r_iteF rfl ?_
            walk_at "rdh"
            exact ⟨rfl, rfl, rfl⟩
      rintro σ' H' ⟨rfl, rfl, nf⟩
      rw [nf] at lp
      walk_at "rdh"
      refine r_ixT hq5 (atI_nat (j := 0) rfl) ?_
      walk_at "rdh"
      refine r_ixT hq5 (atI_nat (j := 0) rfl) ?_
      walk_at "rdh"
      refine r_new (by show 2 ≤ 1000; decide) fun u hu => ?_
      have su := Same.new (o := .tup [.int row.1, .int (row.1 + 1)]) hu
      have ni : inV (.int c) [.int row.1, .int (row.1 + 1)] = nearI row c := by
        unfold inV nearI
        rw [Bool.eq_iff_iff]
        simp [eqV]
        omega
      refine r_notInT (xs := [.int row.1, .int (row.1 + 1)]) upd_same rfl rfl ni ?_
      walk_at "rdh"
      refine r_ite (fun b5 => ?_) (fun b5 => ?_)
      · walk_at "rdh"
        have b5' : nearI row c = false := by rw [Bool.not_eq_true'] at b5; exact b5
        exact bad (by rw [lp, b5']; rfl) _ su
      · walk_at "rdh"
        have b5' : nearI row c = true := by rw [Bool.not_eq_false'] at b5; exact b5
        rw [b5'] at lp
        refine ⟨_, _, _, rfl, s5.trans su, fun j u' c' hj hu' hc' => ?_⟩
        by_cases ji : j = i
        · subst ji
          rw [eu] at hu'
          rw [ec] at hc'
          obtain rfl := Option.some.inj hu'
          obtain rfl := Option.some.inj hc'
          exact lp
        · exact put j u' c' (by omega) hu' hc'
    · rintro σ H4 ⟨v5, v6, v7, rfl, s4, put⟩
      have ap : allPut (ps.map (uQ st sb)) cs wq = true := put_all (by rw [List.length_map, cl]) fun i u c hu hc => put i u c (by
        have := (List.getElem?_eq_some_iff.mp hc).1
        rw [List.length_map]
        exact this) hu hc
      rw [ap, Bool.true_and] at k
      walk_at "rdh"
      refine ⟨p2, cs, rfl, SqT.of (s4 _ _ (s13 _ _ hp2)), ?_⟩
      walk_at "rdh"
      refine ⟨p, s', ps, st, sb, rfl, hp.same (s13.trans s4), ⟨s4 _ _ (s13 _ _ hs), hst⟩, hb, l40, fun H5 s5 => ?_⟩
      walk_at "rdh"
      exact k _ ((s13.trans s4).trans s5)
end
end My

namespace My
open PySem L2 TL NumText
/-- texts of small signs -/
def FT (t : Str) : Prop := ∀ c ∈ tl t, c < 16 ^ 8
theorem FT.app {a b : Str} (ha : FT a) (hb : FT b) : FT (a ++ b) := fun c hc => by
  rw [tl_append] at hc
  exact (List.mem_append.mp hc).elim (ha c) (hb c)
theorem FT_TI (z : Int) : FT (TI z) := fun c hc => by
  rw [tl_TI] at hc
  unfold signL at hc
  have dg : ∀ n : Nat, ∀ c ∈ numL n, c < 16 ^ 8 := fun n c h => by
    have := numL_digits _ c h
    omega
  split at hc
  · rcases List.mem_cons.mp hc with h | h
    · omega
    · exact dg _ c h
  · exact dg _ c hc
structure Fine1 (d : PyData) (n : Nat) : Prop where
  sh : d.showable = true
  hd : d.hasDict = false
  dp : d.depth ≤ 0
  ls : d.leavesShort 1921 = true
  wt : d.weight ≤ n
theorem fine_str {t : Str} (f : FT t) (n : t.length ≤ 5000) : Fine1 (.str t) 5000 := by
  refine ⟨rfl, by simp [PyData.hasDict], by simp [PyData.depth], ?_, n⟩
  show ((t.cps.toList.all fun c => decide (c < 16 ^ 8)) = true)
  rw [List.all_eq_true]
  intro c hc
  exact decide_eq_true (f c hc)
theorem empty_app (t : Str) : Str.empty ++ t = t := by
  exact ext_tl (by rw [tl_append]; rfl)
theorem NText_ft (x : Rat) : FT (NText x) := by
  unfold NText
  split
  · exact FT_TI _
  · exact ((FT_TI _).app (by unfold FT; decide)).app (FT_TI _)
theorem RText_is (x : Rat) : RText x = "Number(" ++ TI x.num ++ ", " ++ TI (x.den : Int) ++ ")" := by
  unfold RText
  rw [empty_app]
theorem RText_ft (x : Rat) : FT (RText x) := by
  rw [RText_is]
  exact (((((show FT "Number(" by unfold FT; decide).app (FT_TI _)).app (show FT ", " by unfold FT; decide)).app (FT_TI _)).app (show FT ")" by unfold FT; decide))
end My

namespace My
open PySem L2 TL
/-! ### how great a thing is: bits of numbers, places, depth -/
mutual
def okT (k : Nat) : Tg → Prop
  | .int i => i.natAbs < 2 ^ k
  | .str z => FT z ∧ z.length ≤ 250
  | .num x => Bd k x
  | .tup ts => okTs k ts
  | .lst ts => okTs k ts
  | _ => True
def okTs (k : Nat) : List Tg → Prop
  | [] => True
  | t :: ts => okT k t ∧ okTs k ts
end
mutual
def szT : Tg → Nat
  | .tup ts => szTs ts
  | .lst ts => szTs ts
  | _ => 0
def szTs : List Tg → Nat
  | [] => 0
  | t :: ts => szT t + 1 + szTs ts
end
mutual
def dpT : Tg → Nat
  | .tup ts => dpTs ts + 1
  | .lst ts => dpTs ts + 1
  | _ => 0
def dpTs : List Tg → Nat
  | [] => 0
  | t :: ts => max (dpT t) (dpTs ts)
end
theorem okTs_iff {k : Nat} : ∀ {ts : List Tg}, okTs k ts ↔ ∀ t ∈ ts, okT k t
  | [] => ⟨fun _ t h => (nomatch h), fun _ => trivial⟩
  | t :: ts => by
    rw [List.forall_mem_cons, ← okTs_iff (ts := ts)]
    rfl
theorem dpTs_iff {m : Nat} : ∀ {ts : List Tg}, dpTs ts ≤ m ↔ ∀ t ∈ ts, dpT t ≤ m
  | [] => ⟨fun _ t h => (nomatch h), fun _ => Nat.zero_le _⟩
  | t :: ts => by
    rw [List.forall_mem_cons, ← dpTs_iff (ts := ts)]
    show max (dpT t) (dpTs ts) ≤ m ↔ _
    exact Nat.max_le
theorem szTs_app : ∀ (a b : List Tg), szTs (a ++ b) = szTs a + szTs b
  | [], b => by show szTs b = 0 + szTs b; omega
  | t :: a, b => by
    show szT t + 1 + szTs (a ++ b) = szT t + 1 + szTs a + szTs b
    rw [szTs_app a b]
    omega
theorem szTs_rev : ∀ a : List Tg, szTs a.reverse = szTs a
  | [] => rfl
  | t :: a => by
    rw [List.reverse_cons, szTs_app, szTs_rev a]
    show szTs a + (szT t + 1 + 0) = szT t + 1 + szTs a
    omega
theorem szTs_len : ∀ ts : List Tg, ts.length ≤ szTs ts
  | [] => Nat.le_refl _
  | t :: ts => by
    have := szTs_len ts
    show ts.length + 1 ≤ szT t + 1 + szTs ts
    omega
theorem szTs_mem {t : Tg} : ∀ {ts : List Tg}, t ∈ ts → szT t + 1 ≤ szTs ts
  | u :: ts, h => by
    show szT t + 1 ≤ szT u + 1 + szTs ts
    rcases List.mem_cons.mp h with rfl | h
    · omega
    · have := szTs_mem h
      omega
structure Fi (k n m : Nat) (t : Tg) : Prop where
  ok : okT k t
  sz : szT t ≤ n
  dp : dpT t ≤ m
structure Fs (k n m : Nat) (ts : List Tg) : Prop where
  ok : ∀ t ∈ ts, okT k t
  sz : szTs ts ≤ n
  dp : ∀ t ∈ ts, dpT t ≤ m
mutual
theorem okT_mono {k j : Nat} (h : k ≤ j) : ∀ {t : Tg}, okT k t → okT j t
  | .int i, e => by
    unfold okT at e ⊢
    exact Nat.lt_of_lt_of_le e (Nat.pow_le_pow_right (by decide) h)
  | .num x, e => by
    unfold okT at e ⊢
    exact e.mono h
  | .str z, e => by unfold okT at e ⊢; exact e
  | .tup ts, e => by unfold okT at e ⊢; exact okTs_mono h e
  | .lst ts, e => by unfold okT at e ⊢; exact okTs_mono h e
  | .non, _ => by unfold okT; trivial
  | .bl _, _ => by unfold okT; trivial
  | .dct, _ => by unfold okT; trivial
theorem okTs_mono {k j : Nat} (h : k ≤ j) : ∀ {ts : List Tg}, okTs k ts → okTs j ts
  | [], _ => trivial
  | t :: ts, e => by
    have e' : okT k t ∧ okTs k ts := e
    exact ⟨okT_mono h e'.1, okTs_mono h e'.2⟩
end
theorem Fi.mono {k n m k' n' m' : Nat} {t : Tg} (h : Fi k n m t) (a : k ≤ k') (b : n ≤ n') (c : m ≤ m') : Fi k' n' m' t := ⟨okT_mono a h.ok, Nat.le_trans h.sz b, Nat.le_trans h.dp c⟩
theorem Fs.mono {k n m k' n' m' : Nat} {ts : List Tg} (h : Fs k n m ts) (a : k ≤ k') (b : n ≤ n') (c : m ≤ m') : Fs k' n' m' ts := ⟨fun t ht => okT_mono a (h.ok t ht), Nat.le_trans h.sz b, fun t ht => Nat.le_trans (h.dp t ht) c⟩
theorem Fs.tup {k n m : Nat} {ts : List Tg} (h : Fs k n m ts) : Fi k n (m + 1) (.tup ts) := ⟨by unfold okT; exact okTs_iff.mpr h.ok, h.sz, by show dpTs ts + 1 ≤ m + 1; have := dpTs_iff.mpr h.dp; omega⟩
theorem Fs.lst {k n m : Nat} {ts : List Tg} (h : Fs k n m ts) : Fi k n (m + 1) (.lst ts) := ⟨by unfold okT; exact okTs_iff.mpr h.ok, h.sz, by show dpTs ts + 1 ≤ m + 1; have := dpTs_iff.mpr h.dp; omega⟩
theorem Fi.parts {k n m : Nat} {ts : List Tg} (h : Fi k n m (.tup ts)) : ∃ j, m = j + 1 ∧ Fs k n j ts := by
  have d : dpTs ts + 1 ≤ m := h.dp
  refine ⟨m - 1, by omega, ?_, h.sz, dpTs_iff.mp (by omega)⟩
  have := h.ok
  unfold okT at this
  exact okTs_iff.mp this
theorem Fs.nil {k n m : Nat} : Fs k n m [] := ⟨fun t h => (nomatch h), Nat.zero_le _, fun t h => (nomatch h)⟩
theorem Fs.one {k n m : Nat} {t : Tg} (h : Fi k n m t) : Fs k (n + 1) m [t] := ⟨fun u hu => by rw [List.mem_singleton.mp hu]; exact h.ok, by show szT t + 1 + 0 ≤ n + 1; have := h.sz; omega, fun u hu => by rw [List.mem_singleton.mp hu]; exact h.dp⟩
theorem Fs.app {k n n' m : Nat} {a b : List Tg} (h : Fs k n m a) (g : Fs k n' m b) : Fs k (n + n') m (a ++ b) := ⟨fun t ht => (List.mem_append.mp ht).elim (h.ok t) (g.ok t), by rw [szTs_app]; exact Nat.add_le_add h.sz g.sz, fun t ht => (List.mem_append.mp ht).elim (h.dp t) (g.dp t)⟩
theorem Fs.rev {k n m : Nat} {a : List Tg} (h : Fs k n m a) : Fs k n m a.reverse := ⟨fun t ht => h.ok t (List.mem_reverse.mp ht), by rw [szTs_rev]; exact h.sz, fun t ht => h.dp t (List.mem_reverse.mp ht)⟩
/-- a part and the rest -/
theorem Fs.cut {k n m : Nat} {ts : List Tg} (h : Fs k n m ts) (a : Nat) : ∃ i j, Fs k i m (ts.take a) ∧ Fs k j m (ts.drop a) ∧ i + j ≤ n := by
  refine ⟨szTs (ts.take a), szTs (ts.drop a), ⟨fun t ht => h.ok t (List.mem_of_mem_take ht), Nat.le_refl _, fun t ht => h.dp t (List.mem_of_mem_take ht)⟩, ⟨fun t ht => h.ok t (List.mem_of_mem_drop ht), Nat.le_refl _, fun t ht => h.dp t (List.mem_of_mem_drop ht)⟩, ?_⟩
  rw [← szTs_app, List.take_append_drop]
  exact h.sz
theorem Fs.at_ {k n m : Nat} {ts : List Tg} (h : Fs k n m ts) {i : Nat} {t : Tg} (e : ts[i]? = some t) : Fi k n m t := by
  have hm := List.mem_of_getElem? e
  exact ⟨h.ok t hm, by have := szTs_mem hm; have := h.sz; omega, h.dp t hm⟩
/-- the first ones, one of them, the later ones -/
theorem Fs.cut3 {k n m a : Nat} {ts : List Tg} {x : Tg} (h : Fs k n m ts) (hx : ts[a]? = some x) : ∃ i j l, Fs k i m (ts.take a) ∧ Fi k j m x ∧ Fs k l m (ts.drop (a + 1)) ∧ i + (j + 1) + l ≤ n := by
  have hm := List.mem_of_getElem? hx
  have al : a < ts.length := (List.getElem?_eq_some_iff.mp hx).1
  have ed : ts.drop a = x :: ts.drop (a + 1) := by
    rw [List.drop_eq_getElem_cons al]
    rw [(List.getElem?_eq_some_iff.mp hx).2]
  obtain ⟨i, j, f1, f2, le⟩ := h.cut a
  have e2 : szT x + 1 + szTs (ts.drop (a + 1)) ≤ j := by
    have := f2.sz
    rw [ed] at this
    exact this
  exact ⟨i, szT x, szTs (ts.drop (a + 1)), f1, ⟨h.ok x hm, Nat.le_refl _, h.dp x hm⟩, ⟨fun t ht => h.ok t (List.mem_of_mem_drop ht), Nat.le_refl _, fun t ht => h.dp t (List.mem_of_mem_drop ht)⟩, by omega⟩
theorem Fi.bound {k n m : Nat} {t : Tg} (h : Fi k n m t) (hk : k ≤ 1000) : BoundT t := by
  intro cs wq e
  subst e
  obtain ⟨j, rfl, f⟩ := h.parts
  have a := f.ok (.tup (cs.map Tg.int)) (List.mem_cons_self ..)
  have b := f.ok (.num wq) (List.mem_cons_of_mem _ (List.mem_cons_self ..))
  unfold okT at a b
  refine ⟨fun c hc => ?_, b.mono hk⟩
  have := okTs_iff.mp a (.int c) (List.mem_map_of_mem hc)
  unfold okT at this
  exact Nat.lt_of_lt_of_le this (Nat.pow_le_pow_right (by decide) hk)
end My

namespace My
open PySem PySem.Spec PyProof.Rows L2 TL
section
variable {X : Cx}
/-- whole numbers and truths, reckoned with -/
inductive IV : V → Int → Prop where
  | int (i : Int) : IV (.int i) i
  | bl (b : Bool) : IV (.bl b) (if b = true then 1 else 0)
def rB (C : Int → Int → Prop) (g : Int → Int → V) : R2 := fun x y H Q => ∃ i j, IV x i ∧ y = .int j ∧ C i j ∧ Q (g i j) H
def rB' (C : Int → Int → Prop) (g : Int → Int → V) : R2 := fun x y H Q => ∃ i j, x = .int i ∧ IV y j ∧ C i j ∧ Q (g i j) H
theorem op_addB : OpR X (binaryOp .Add) (rB (fun _ _ => True) fun i j => .int (i + j)) := by
  rintro pins s σ H x y v u Q I rx ry ⟨i, j, hx, rfl, _, q⟩
  obtain ⟨t, rfl⟩ := ry
  cases hx with
  | int =>
    obtain ⟨t', rfl⟩ := rx
    exact add_int ⟨.int _, H, I.tok _, ⟨_, rfl⟩, q⟩
  | bl b =>
    cases rx
    exact PySem.IntBool.add_bool_int ⟨.int _, H, I.tok _, ⟨_, rfl⟩, q⟩
theorem op_subB : OpR X (binaryOp .Sub) (rB (fun _ _ => True) fun i j => .int (i - j)) := by
  rintro pins s σ H x y v u Q I rx ry ⟨i, j, hx, rfl, _, q⟩
  obtain ⟨t, rfl⟩ := ry
  cases hx with
  | int =>
    obtain ⟨t', rfl⟩ := rx
    exact sub_int ⟨.int _, H, I.tok _, ⟨_, rfl⟩, q⟩
  | bl b =>
    cases rx
    exact PySem.IntBool.sub_bool_int ⟨.int _, H, I.tok _, ⟨_, rfl⟩, q⟩
theorem op_subB' : OpR X (binaryOp .Sub) (rB' (fun _ _ => True) fun i j => .int (i - j)) := by
  rintro pins s σ H x y v u Q I rx ry ⟨i, j, rfl, hy, _, q⟩
  obtain ⟨t, rfl⟩ := rx
  cases hy with
  | int =>
    obtain ⟨t', rfl⟩ := ry
    exact sub_int ⟨.int _, H, I.tok _, ⟨_, rfl⟩, q⟩
  | bl b =>
    cases ry
    exact PySem.IntBool.sub_int_bool ⟨.int _, H, I.tok _, ⟨_, rfl⟩, q⟩
theorem int___gt___bool_int (a : Bool) (b : Int) (u : Tok) : Gives (Builtin.«int.__gt__» ⟨[.bool a, .int b u], []⟩) (.val (Value.bool (decide ((if a = true then (1 : Int) else 0) > b)))) :=
  .of_wp fun M A E s Q h => by obtain ⟨hp, g, d, tk, os⟩ := s; wp_walk; exact ⟨_, rfl, h⟩
theorem gt_bool_int {prog : Program} {w : World} {A : Around} {E : Value → Shared → Prop} {s : Shared} {Q : Value → Shared → Prop} {a : Bool} {b : Int} {u : Tok} (h : Q (.bool (decide ((if a = true then (1 : Int) else 0) > b))) s) : wpAny (model prog w) A (richCompare .Gt (.bool a) (.int b u)) Q E s :=
  SeqAt.rc_left_or (op := .Gt) (Ta := "bool") (Tb := "int") rfl (typeIs_int s b u) (by decide) F.sub_int_bool F.slot_bool_gt
    (call_gives F.slot_bool_gt rfl F.entry_int_gt (F.args_int_gt_2 _ _) (int___gt___bool_int a b u) ⟨nofun, h⟩) (.inl rfl)
theorem op_gtB : OpR X (compareOp .Gt) (rB (fun _ _ => True) fun i j => .bl (decide (j < i))) := by
  rintro pins s σ H x y v u Q I rx ry ⟨i, j, hx, rfl, _, q⟩
  obtain ⟨t, rfl⟩ := ry
  cases hx with
  | int =>
    obtain ⟨t', rfl⟩ := rx
    exact gt_int (fin_bl I q rfl)
  | bl b =>
    cases rx
    show wpAny (model X.prog X.w) X.A (richCompare .Gt (.bool b) (.int j t)) _ _ s
    exact gt_bool_int (fin_bl I q rfl)
/-- str of a whole number or a truth -/
theorem call_strZ : CallR X (.type "str") (fun xs H Q => ∃ x i, xs = [x] ∧ IV x i ∧ i.natAbs < 2 ^ 420 ∧ ∀ z : Str, FT z → z.length ≤ 250 → Q (.str z) H) := by
  rintro pins s σ H xs us Q I r ⟨x, i, rfl, hx, hz, q⟩
  obtain ⟨u, rfl, rx⟩ := vals1 r
  cases hx with
  | int =>
    obtain ⟨t, rfl⟩ := rx
    have l : i.natAbs.log2 < 420 := PySem.Flt.log2_lt_of (by decide) hz
    refine PySem.P.str_of_int (by omega) ⟨.str _, H, I.tok _, ⟨_, rfl⟩, q _ (FT_TI i) ?_⟩
    have a := signL_len (i := i) (k := 130) (by decide) (Nat.lt_of_lt_of_le hz (by decide))
    have b : (TI i).length = (signL i).length := by rw [len_tl, tl_TI]
    show (TI i).length ≤ 250
    rw [b]
    split at a <;> omega
  | bl b =>
    cases rx
    exact PySem.P.str_of_bool ⟨.str _, H, I.tok _, ⟨_, rfl⟩, q _ (by cases b <;> (unfold FT; decide +kernel)) (by cases b <;> decide +kernel)⟩
end
end My

namespace My
open PySem L2
/-! ### slices and joins of tuples of things -/
theorem r_cutTQ {K : PySem.W.Frag} {H : Hp} {a : Addr} {xs : List V} {lo hi : Option Int} {Q : VK} (h : H a = some (.tup xs)) (q : ∀ (b : Addr) (H' : Hp), Same H H' → H' b = some (.tup (cutV xs lo hi)) → Q (.ref b) H') : rSlA K (.ref a) lo hi H Q :=
  ⟨a, xs, rfl, SqT.of h, fun z => q a H (Same.refl _) (by rw [cut_wholeQ z]; exact h), fun _ p hp => q p _ (Same.new hp) upd_same⟩
theorem cut_midQ {xs : List V} {n : Nat} (h : n ≤ xs.length) : cutV xs (some (n : Int)) (some ((n : Int) + 2)) = (xs.drop n).take 2 := by
  have e1 : HT.sIx xs.length 0 (some (n : Int)) = n := by rw [HT.sIx_nat, Nat.min_eq_left h]
  have e2 : HT.sIx xs.length xs.length (some ((n : Int) + 2)) = min (n + 2) xs.length := by
    rw [show ((n : Int) + 2) = ((n + 2 : Nat) : Int) by omega, HT.sIx_nat]
  unfold cutV
  rw [e1, e2]
  by_cases g : n + 2 ≤ xs.length
  · rw [Nat.min_eq_left g]
    congr 1
    omega
  · rw [Nat.min_eq_right (by omega), List.take_of_length_le (by rw [List.length_drop]; omega), List.take_of_length_le (by rw [List.length_drop]; omega)]
/-! the same, with what stands there by name -/
theorem slV_to {K : PySem.W.Frag} {H : Hp} {a : Addr} {vs : List V} {n : Nat} {i : Int} {Q : VK} (hp : H a = some (.tup vs)) (e : i = (n : Int)) (q : ∀ (b : Addr) (H' : Hp), Same H H' → H' b = some (.tup (vs.take n)) → Q (.ref b) H') : rSlA K (.ref a) none (some i) H Q := by
  subst e
  refine r_cutTQ hp fun b H' s hb => q b H' s ?_
  rw [cut_toQ] at hb
  exact hb
theorem slV_from {K : PySem.W.Frag} {H : Hp} {a : Addr} {vs : List V} {n : Nat} {i : Int} {Q : VK} (hp : H a = some (.tup vs)) (e : i = (n : Int)) (q : ∀ (b : Addr) (H' : Hp), Same H H' → H' b = some (.tup (vs.drop n)) → Q (.ref b) H') : rSlA K (.ref a) (some i) none H Q := by
  subst e
  refine r_cutTQ hp fun b H' s hb => q b H' s ?_
  rw [cut_fromQ] at hb
  exact hb
theorem slV_mid {K : PySem.W.Frag} {H : Hp} {a : Addr} {vs : List V} {n : Nat} {i j : Int} {Q : VK} (hp : H a = some (.tup vs)) (e : i = (n : Int)) (e2 : j = (n : Int) + 2) (l : n ≤ vs.length) (q : ∀ (b : Addr) (H' : Hp), Same H H' → H' b = some (.tup ((vs.drop n).take 2)) → Q (.ref b) H') : rSlA K (.ref a) (some i) (some j) H Q := by
  subst e e2
  refine r_cutTQ hp fun b H' s hb => q b H' s ?_
  rw [cut_midQ l] at hb
  exact hb
theorem catV {K : PySem.W.Frag} {H : Hp} {a b : Addr} {xs ys : List V} {Q : VK} (h1 : H a = some (.tup xs)) (h2 : H b = some (.tup ys)) (n : xs.length + ys.length ≤ 100) (q : ∀ (x : Addr) (H' : Hp), Same H H' → H' x = some (.tup (xs ++ ys)) → Q (.ref x) H') : rCatA K (.ref a) (.ref b) H Q := by
  refine ⟨a, b, xs, ys, rfl, rfl, SqT.of h1, SqT.of h2, Nat.le_trans n (by decide), fun e => ?_, fun _ e => ?_, fun _ _ p hp => ?_⟩
  · subst e
    exact q b H (Same.refl _) h2
  · subst e
    rw [List.append_nil] at q
    exact q a H (Same.refl _) h1
  · exact q p _ (Same.new hp) upd_same
def TpT (C d : Addr) (H : Hp) (p : Addr) (ts : List Tg) : Prop := ∃ vs, H p = some (.tup vs) ∧ TgAll C d H vs ts
section
variable {C d : Addr} {K : PySem.W.Frag} {H : Hp}
theorem TpT.same {H' : Hp} {p : Addr} {ts : List Tg} (s : Same H H') (h : TpT C d H p ts) : TpT C d H' p ts := let ⟨vs, a, b⟩ := h; ⟨vs, s _ _ a, b.same s⟩
theorem TpT.out {H' : Hp} {p : Addr} {ts : List Tg} (o : Out d H H') (w : WellAt H d) (h : TpT C d H p ts) : TpT C d H' p ts := let ⟨vs, a, b⟩ := h; ⟨vs, o.keep w a (fun _ z => by cases z), b.out o w⟩
theorem TpT.at_ {p : Addr} {ts : List Tg} (h : TpT C d H p ts) : TgAt C d H (.ref p) (.tup ts) := let ⟨_, a, b⟩ := h; .tup a b
theorem slT_to {a : Addr} {ts : List Tg} {n : Nat} {i : Int} {Q : VK} (h : TpT C d H a ts) (e : i = (n : Int)) (q : ∀ (b : Addr) (H' : Hp), Same H H' → TpT C d H' b (ts.take n) → Q (.ref b) H') : rSlA K (.ref a) none (some i) H Q := by
  obtain ⟨vs, hp, he⟩ := h
  subst e
  refine r_cutTQ hp fun b H' s hb => q b H' s ⟨_, hb, ?_⟩
  rw [cut_toQ]
  exact (he.same s).take n
theorem slT_from {a : Addr} {ts : List Tg} {n : Nat} {i : Int} {Q : VK} (h : TpT C d H a ts) (e : i = (n : Int)) (q : ∀ (b : Addr) (H' : Hp), Same H H' → TpT C d H' b (ts.drop n) → Q (.ref b) H') : rSlA K (.ref a) (some i) none H Q := by
  obtain ⟨vs, hp, he⟩ := h
  subst e
  refine r_cutTQ hp fun b H' s hb => q b H' s ⟨_, hb, ?_⟩
  rw [cut_fromQ]
  exact (he.same s).drop n
theorem slT_mid {a : Addr} {ts : List Tg} {n : Nat} {i j : Int} {Q : VK} (h : TpT C d H a ts) (e : i = (n : Int)) (e2 : j = (n : Int) + 2) (l : n ≤ ts.length) (q : ∀ (b : Addr) (H' : Hp), Same H H' → TpT C d H' b ((ts.drop n).take 2) → Q (.ref b) H') : rSlA K (.ref a) (some i) (some j) H Q := by
  obtain ⟨vs, hp, he⟩ := h
  subst e e2
  refine r_cutTQ hp fun b H' s hb => q b H' s ⟨_, hb, ?_⟩
  rw [cut_midQ (by rw [he.len]; exact l)]
  exact ((he.same s).drop n).take 2
theorem catT {a b : Addr} {es fs : List Tg} {Q : VK} (ha : TpT C d H a es) (hb : TpT C d H b fs) (n : es.length + fs.length ≤ 100) (q : ∀ (x : Addr) (H' : Hp), Same H H' → TpT C d H' x (es ++ fs) → Q (.ref x) H') : rCatA K (.ref a) (.ref b) H Q := by
  obtain ⟨xs, h1, he⟩ := ha
  obtain ⟨ys, h2, hf⟩ := hb
  have l1 := he.len
  have l2 := hf.len
  have hap := he.app hf
  refine ⟨a, b, xs, ys, rfl, rfl, SqT.of h1, SqT.of h2, Nat.le_trans (show xs.length + ys.length ≤ 100 by omega) (by decide), fun e => ?_, fun _ e => ?_, fun _ _ p hp => ?_⟩
  · subst e
    cases he
    exact q b H (Same.refl _) ⟨_, h2, hf⟩
  · subst e
    cases hf
    rw [List.append_nil] at hap
    exact q a H (Same.refl _) ⟨_, h1, hap⟩
  · exact q p _ (Same.new hp) ⟨_, upd_same, hap.same (Same.new hp)⟩
theorem TgAll.ati {vs : List V} {xs : List Tg} {i : Int} (a : TgAll C d H vs xs) (i0 : 0 ≤ i) (i1 : i < (xs.length : Int)) : ∃ v x, atI vs i = some v ∧ x ∈ xs ∧ TgAt C d H v x := by
  obtain ⟨n, rfl⟩ := Int.eq_ofNat_of_zero_le i0
  have l := a.len
  have hn : n < vs.length := by omega
  have e := List.getElem?_eq_getElem hn
  obtain ⟨x, hx, h⟩ := a.get e
  exact ⟨_, x, atI_nat e, List.mem_of_getElem? hx, h⟩
end
end My

namespace My
open PySem L2
section
variable {P : Program} {w : World} {K : PySem.W.Frag} {mg : Str → Option Value} {base : Heap}
theorem r_dnewQ {σ : L2.St} {H : Hp} {Q : VK} (q : ∀ p, H p = none → Q (.ref p) (upd H p (.dK []))) : tDNewK σ H Q := q
theorem FT_NText (x : Rat) : FT (NText x) := NText_ft x
theorem one_ {k : Nat} {i : Int} (h : i.natAbs < 2 ^ k) : Fi k 0 0 (.int i) := ⟨by unfold okT; exact h, Nat.le_refl _, Nat.le_refl _⟩
theorem ntext_250 {k : Nat} {y : Rat} (b : Bd k y) (h : k ≤ 380) : (NText y).length ≤ 250 := by
  have kk : (2 : Nat) ^ k ≤ 10 ^ 115 := Nat.le_trans (Nat.pow_le_pow_right (by decide) h) (by decide +kernel)
  have l : ∀ i : Int, i.natAbs < 2 ^ k → (TI i).length ≤ 116 := fun i hi => by
    have := signL_len (i := i) (k := 115) (by decide) (Nat.lt_of_lt_of_le hi kk)
    rw [TI_len]
    split at this <;> omega
  have l1 := l y.num b.1
  have l2 := l (y.den : Int) (by rw [Int.natAbs_natCast]; exact b.2)
  unfold NText
  split
  · omega
  · rw [Str.length_append, Str.length_append]
    have : ("/" : Str).length = 1 := rfl
    omega
theorem int1_iv {v : V} {z : Int} {H : Hp} {Q : VK} (iv : IV v z) (q : Q (.int z) H) : (∃ i, [v] = [V.int i] ∧ Q (.int i) H) ∨ ∃ k, [v] = [V.bl k] ∧ Q (.int (if k then 1 else 0)) H := by
  cases iv with
  | int => exact .inl ⟨_, rfl, q⟩
  | bl b => exact .inr ⟨b, rfl, q⟩
def spOdd (C : Addr) : Sp := fun vs H Q _ => ∃ (d : Addr) (v : V) (x : Tg) (k n m : Nat), vs = [.ref d, v] ∧ WellAt H d ∧ TgAt C d H v x ∧ Fi k n m x ∧ (140 ≤ k ∧ k ≤ 380 ∧ n ≤ 40) ∧
  ∀ (v' : V) (x' : Tg) (H' : Hp), Out d H H' → WellAt H' d → TgAt C d H' v' x' → Fi (k + 8) (2 * n + 3) (m + 2) x' → Q v' H'
theorem ok_l_odd (T : Txt w K mg) : FnOk P w K mg base CX0 4 T.f_l_odd T.fd_l_odd ["_law_well_here", "_law_thing"] (spOdd T.C_Number) := by
  refine T.F_l_odd.ok sc_l_odd (fun vs H Q E h => ?_) (fun cdv A outer s H vs Q E hr h => ?_)
  · obtain ⟨d, v, x, k, n, m, rfl, _⟩ := h
    rfl
  · obtain ⟨d, v, x, k, n, m, rfl, wl, hv, hx, ⟨k0, k1, n1⟩, q⟩ := h
    refine ⟨_, (pss_cons (ps_if (pt_val (pe_callB call_isi (by rfl) T.n_isinstance (by decide +kernel) (pa_cons (pv 1) (pa_cons (pe_glob (v := .ref T.C_Number) (by rfl) T.m_Number rfl) pa_nil))))
  (pss_cons (ps_set (i := 2) sc_l_odd.nd rfl (Or.inl rfl) (pe_lst (pa_cons (pe_callTy (call_strOwn (ok_Number_str T) T.me_Number_str.at_ T.me_Number_str.fn T.b_Number_str (hr.mono (by decide))) (by rfl) T.n_str (by decide +kernel) (pa_cons (pv 1) pa_nil)) (pa_cons pe_non (pa_cons (pe_fld (pv 1) rfl) (pa_cons (pe_tup (pa_cons (pe_fld (pv 1) rfl) (pa_cons (pe_fld (pv 1) rfl) pa_nil))) (pa_cons (pe_meth (pv 1) T.c_Number T.me_Number_more (ok_Number_more T) (hr.mono (by decide)) T.b_Number_more .nil pass0 (pa_cons (pe_make T.mk_Number (ok_Number_init T) (hr.mono (by decide)) (by rfl) T.m_Number T.b_Number_init2 .nil pass0 (pa_cons pe_int (pa_cons pe_int pa_nil))) pa_nil)) pa_nil)))))))
 (pss_cons (ps_set (i := 2) sc_l_odd.nd rfl (Or.inl rfl) (pe_op op_cat (pv 2) (pe_lst (pa_cons (pe_meth (pv 1) T.c_Number T.me_Number_less (ok_Number_less T) (hr.mono (by decide)) T.b_Number_less .nil pass0 (pa_cons (pe_make T.mk_Number (ok_Number_init T) (hr.mono (by decide)) (by rfl) T.m_Number T.b_Number_init2 .nil pass0 (pa_cons pe_int (pa_cons pe_int pa_nil))) pa_nil)) (pa_cons (pe_meth (pe_make T.mk_Number (ok_Number_init T) (hr.mono (by decide)) (by rfl) T.m_Number T.b_Number_init1 T.d_Number_init1 pass0 (pa_cons pe_int pa_nil)) T.c_Number T.me_Number_less (ok_Number_less T) (hr.mono (by decide)) T.b_Number_less .nil pass0 (pa_cons (pv 1) pa_nil)) (pa_cons (pe_make T.mk_Number (ok_Number_init T) (hr.mono (by decide)) (by rfl) T.m_Number T.b_Number_init1 T.d_Number_init1 pass0 (pa_cons pe_int pa_nil)) (pa_cons (pe_make T.mk_Number (ok_Number_init T) (hr.mono (by decide)) (by rfl) T.m_Number T.b_Number_init1 T.d_Number_init1 pass0 (pa_cons pe_int pa_nil)) pa_nil)))))))
 (pss_one (ps_ret (pe_ix ix_list (pe_op op_cat (pv 2) (pe_lst (pa_cons (pe_lst (pa_cons (pv 1) pa_nil)) (pa_cons pe_bl (pa_cons pe_int (pa_cons pe_int pa_nil)))))) (pe_call (ok_l_take T) (hr.mono (by decide)) (by rfl) T.m_l_take T.F_l_take.kp T.b_l_take .nil pass0 (pa_cons (pv 0) (pa_cons pe_int pa_nil))) (fun _ _ => rfl))))))
  pss_nil)
 (pss_cons (ps_if (pt_val (pe_callB call_isi (by rfl) T.n_isinstance (by decide +kernel) (pa_cons (pv 1) (pa_cons (pe_bltn (v := .ty "tuple") (by rfl) T.n_tuple (by decide +kernel) rfl) pa_nil))))
  (pss_cons (ps_set (i := 3) sc_l_odd.nd rfl (Or.inl rfl) (pe_call (ok_l_take T) (hr.mono (by decide)) (by rfl) T.m_l_take T.F_l_take.kp T.b_l_take .nil pass0 (pa_cons (pv 0) (pa_cons (pe_callB (call_max2 rfl) (by rfl) T.n_max (by decide +kernel) (pa_cons pe_int (pa_cons (pe_callB call_len_seq (by rfl) T.n_len PySem.boot_len (pa_cons (pv 1) pa_nil)) pa_nil))) pa_nil))))
 (pss_cons (ps_set (i := 2) sc_l_odd.nd rfl (Or.inl rfl) (pe_lst (pa_cons (pe_op op_catA (pe_slice sl_tupA (pv 1) po_none (po_some (pv 3))) (pe_slice sl_tupA (pv 1) (po_some (pe_op op_add (pv 3) pe_int)) po_none)) (pa_cons (pe_op op_catA (pe_slice sl_tupA (pv 1) po_none (po_some (pe_op op_add (pv 3) pe_int))) (pe_slice sl_tupA (pv 1) (po_some (pv 3)) po_none)) (pa_cons (pe_revT (pv 1)) (pa_cons (pe_callTy call_list_of (by rfl) T.n_list (by decide +kernel) (pa_cons (pv 1) pa_nil)) (pa_cons (pe_tup pa_nil) (pa_cons (pe_slice sl_tupA (pv 1) po_none (po_some (pv 3))) pa_nil))))))))
 (pss_cons (ps_expr (pe_bm PySem.F.plainAttrs_list PySem.F.slot_list_append PySem.F.type_list_append mt_append (pv 2) (pa_cons (pe_op op_catA (pe_op op_catA (pe_slice sl_tupA (pv 1) po_none (po_some (pv 3))) (pe_revT (pe_slice sl_tupA (pv 1) (po_some (pv 3)) (po_some (pe_op op_add (pv 3) pe_int))))) (pe_slice sl_tupA (pv 1) (po_some (pe_op op_add (pv 3) pe_int)) po_none)) pa_nil)))
 (pss_one (ps_ret (pe_ix ix_list (pe_op op_cat (pv 2) (pe_lst (pa_cons (pe_op op_catA (pv 1) (pe_tup (pa_cons pe_int pa_nil))) (pa_cons (pe_tup (pa_cons (pv 1) pa_nil)) (pa_cons pe_non (pa_cons pe_dnewK pa_nil)))))) (pe_call (ok_l_take T) (hr.mono (by decide)) (by rfl) T.m_l_take T.F_l_take.kp T.b_l_take .nil pass0 (pa_cons (pv 0) (pa_cons pe_int pa_nil))) (fun _ _ => rfl)))))))
  pss_nil)
 (pss_cons (ps_if (pt_val (pe_callB call_isi (by rfl) T.n_isinstance (by decide +kernel) (pa_cons (pv 1) (pa_cons (pe_bltn (v := .ty "int") (by rfl) T.n_int (by decide +kernel) rfl) pa_nil))))
  (pss_cons (ps_set (i := 2) sc_l_odd.nd rfl (Or.inl rfl) (pe_lst (pa_cons (pe_op op_addB (pv 1) pe_int) (pa_cons (pe_op op_subB (pv 1) pe_int) (pa_cons (pe_op op_addB (pv 1) pe_int) (pa_cons (pe_op op_subB' pe_int (pv 1)) (pa_cons pe_int (pa_cons (pe_cmpR op_gtB (pv 1) pe_int (nomark _)) (pa_cons (pe_callTy call_strZ (by rfl) T.n_str (by decide +kernel) (pa_cons (pv 1) pa_nil)) (pa_cons pe_non (pa_cons (pe_op op_pow pe_int pe_int) (pa_cons (pe_tup (pa_cons (pv 1) pa_nil)) pa_nil))))))))))))
 (pss_one (ps_ret (pe_ix ix_list (pe_op op_cat (pv 2) (pe_lst (pa_cons (pe_make T.mk_Number (ok_Number_init T) (hr.mono (by decide)) (by rfl) T.m_Number T.b_Number_init1 T.d_Number_init1 pass0 (pa_cons (pe_op op_mod (pe_callTy call_int1 (by rfl) T.n_int (by decide +kernel) (pa_cons (pv 1) pa_nil)) (pe_op op_pow pe_int pe_int)) pa_nil)) (pa_cons pe_int pa_nil)))) (pe_call (ok_l_take T) (hr.mono (by decide)) (by rfl) T.m_l_take T.F_l_take.kp T.b_l_take .nil pass0 (pa_cons (pv 0) (pa_cons pe_int pa_nil))) (fun _ _ => rfl)))))
  pss_nil)
 (pss_one (ps_ret (pe_ix ix_list (pe_lst (pa_cons pe_non (pa_cons pe_int (pa_cons (pe_tup pa_nil) (pa_cons pe_str pa_nil))))) (pe_call (ok_l_take T) (hr.mono (by decide)) (by rfl) T.m_l_take T.F_l_take.kp T.b_l_take .nil pass0 (pa_cons (pv 0) (pa_cons pe_int pa_nil))) (fun _ _ => rfl))))))), ?_⟩
    have cN := T.c_Number
    have nT := T.n_Number_top
    have nB := T.n_Number_bottom
    walk_at "rdh"
    refine hv.num? T ?_
    walk_at "rdh"
    refine r_ite (fun e => ?_) (fun e => ?_)
    · cases hv with
      | num hn => ?_
      | _ => cases e
      rename_i p y
      have by0 : Bd k y := by have := hx.ok; unfold okT at this; exact this
      have b17 : Bd 3 (Rat.divInt 1 7) := ⟨by decide +kernel, by decide +kernel⟩
      obtain ⟨dx, ep⟩ := id hn
      walk_at "rdf"
      refine ⟨p, dx, _, rfl, ep, ?_⟩
      refine ⟨p, y, rfl, hn, by0.mono (by omega), ?_⟩
      refine ⟨NText y, rfl, ?_⟩
      walk_at "rdf"
      refine r_new (by show 2 ≤ 1000; decide) fun a1 h1 => ?_
      have s1 := Same.new (o := .tup [.int y.num, .int (y.den : Int)]) h1
      have e1 := upd_same (H := H) (a := a1) (o := HO.tup [.int y.num, .int (y.den : Int)])
      generalize upd H a1 (.tup [.int y.num, .int (y.den : Int)]) = H1 at *
      have g1 : TgAt T.C_Number d H1 (.ref a1) (.tup [.int y.num, .int (y.den : Int)]) := .tup e1 (.cons (.int _) (.cons (.int _) .nil))
      walk_at "rdf"
      refine r_meth1 (s1 _ _ ep) (no_more _) ?_
      walk_at "rdf"
      refine mk_num (by decide) (by decide) fun c2 H2 s2 _ hc2 => ?_
      walk_at "rdf"
      have hn2 := (hn.same s1).same s2
      refine ⟨p, c2, y, _, rfl, hn2, hc2, by0.mono (by omega), b17.mono (by decide), trivial, fun m1 H3 s3 _ hm1 => ?_⟩
      have hn3 := hn2.same s3
      walk_at "rdf"
      refine r_new (by show 5 ≤ 1000; decide) fun l1 h4 => ?_
      have s4 := Same.new (o := .lst [.str (NText y), .non, .int y.num, .ref a1, .ref m1]) h4
      have e4 := upd_same (H := H3) (a := l1) (o := HO.lst [.str (NText y), .non, .int y.num, .ref a1, .ref m1])
      generalize upd H3 l1 (.lst [.str (NText y), .non, .int y.num, .ref a1, .ref m1]) = H4 at *
      have w4 := wl.same (((s1.trans s2).trans s3).trans s4)
      have g4 : TgAll T.C_Number d H4 [.str (NText y), .non, .int y.num, .ref a1, .ref m1] [.str (NText y), .non, .int y.num, .tup [.int y.num, .int (y.den : Int)], .num (y + Rat.divInt 1 7)] :=
        .cons (.str _) (.cons .non (.cons (.int _) (.cons (((g1.same s2).same s3).same s4) (.cons ((TgAt.num hm1).same s4) .nil))))
      have hn4 := hn3.same s4
      obtain ⟨d4, f4⟩ := id hn4
      walk_at "rdf"
      refine r_meth1 f4 (no_less _) ?_
      walk_at "rdf"
      refine mk_num (by decide) (by decide) fun c5 H5 s5 _ hc5 => ?_
      walk_at "rdf"
      refine ⟨p, c5, y, _, rfl, hn4.same s5, hc5, by0.mono (by omega), b17.mono (by decide), trivial, fun m2 H6 s6 _ hm2 => ?_⟩
      walk_at "rdf"
      refine mk_num1 fun c7 H7 s7 _ hc7 => ?_
      obtain ⟨d7, f7⟩ := id hc7
      walk_at "rdf"
      refine r_meth1 f7 (no_less _) ?_
      walk_at "rdf"
      have b1 : Bd 1 ((1 : Int) : Rat) := Bd.int (by decide) (by decide)
      refine ⟨c7, p, _, y, rfl, hc7, (((hn4.same s5).same s6).same s7), b1.mono (by decide), by0.mono (by omega), trivial, fun m3 H8 s8 _ hm3 => ?_⟩
      walk_at "rdf"
      refine mk_num1 fun c9 H9 s9 _ hc9 => ?_
      walk_at "rdf"
      refine mk_num1 fun c10 H10 s10 _ hc10 => ?_
      walk_at "rdf"
      refine r_new (by show 4 ≤ 1000; decide) fun l2 h11 => ?_
      have s11 := Same.new (o := .lst [.ref m2, .ref m3, .ref c9, .ref c10]) h11
      have e11 := upd_same (H := H10) (a := l2) (o := HO.lst [.ref m2, .ref m3, .ref c9, .ref c10])
      generalize upd H10 l2 (.lst [.ref m2, .ref m3, .ref c9, .ref c10]) = H11 at *
      have s4_11 := ((((((s5.trans s6).trans s7).trans s8).trans s9).trans s10).trans s11)
      have g11 : TgAll T.C_Number d H11 [.ref m2, .ref m3, .ref c9, .ref c10] [.num (y - Rat.divInt 1 7), .num (((1 : Int) : Rat) - y), .num ((2 : Int) : Rat), .num ((0 : Int) : Rat)] :=
        .cons (((((((TgAt.num hm2).same s7).same s8).same s9).same s10).same s11)) (.cons (((TgAt.num hm3).same s9).same s10 |>.same s11) (.cons (((TgAt.num hc9).same s10).same s11) (.cons ((TgAt.num hc10).same s11) .nil)))
      refine r_cat (s4_11 _ _ e4) e11 (by show 5 + 4 ≤ 100000; decide) fun l3 h12 => ?_
      have s12 := Same.new (o := .lst ([.str (NText y), .non, .int y.num, .ref a1, .ref m1] ++ [.ref m2, .ref m3, .ref c9, .ref c10])) h12
      have e12 := upd_same (H := H11) (a := l3) (o := HO.lst ([.str (NText y), .non, .int y.num, .ref a1, .ref m1] ++ [.ref m2, .ref m3, .ref c9, .ref c10]))
      have g12 := ((g4.same s4_11).app g11).same s12
      generalize upd H11 l3 (.lst ([.str (NText y), .non, .int y.num, .ref a1, .ref m1] ++ [.ref m2, .ref m3, .ref c9, .ref c10])) = H12 at *
      have w12 := (w4.same s4_11).same s12
      have hn12 := (hn4.same s4_11).same s12
      walk_at "rdf"
      refine r_new (by show 1 ≤ 1000; decide) fun l4 h13 => ?_
      have s13 := Same.new (o := .lst [.ref p]) h13
      have g13 := TgAt.newL h13 (well_ne w12 h13) (.cons (.num hn12) .nil : TgAll T.C_Number d H12 [.ref p] [.num y])
      generalize upd H12 l4 (.lst [.ref p]) = H13 at *
      walk_at "rdf"
      refine r_new (by show 4 ≤ 1000; decide) fun l5 h14 => ?_
      have s14 := Same.new (o := .lst [.ref l4, .bl true, .int 0, .int 1]) h14
      have e14 := upd_same (H := H13) (a := l5) (o := HO.lst [.ref l4, .bl true, .int 0, .int 1])
      have g14 : TgAll T.C_Number d (upd H13 l5 (.lst [.ref l4, .bl true, .int 0, .int 1])) [.ref l4, .bl true, .int 0, .int 1] [.lst [.num y], .bl true, .int 0, .int 1] := .cons (g13.same s14) (.cons (.bl _) (.cons (.int _) (.cons (.int _) .nil)))
      generalize upd H13 l5 (.lst [.ref l4, .bl true, .int 0, .int 1]) = H14 at *
      have s12_14 := s13.trans s14
      refine r_cat (s12_14 _ _ e12) e14 (by show 9 + 4 ≤ 100000; decide) fun l6 h15 => ?_
      have s15 := Same.new (o := .lst ([.str (NText y), .non, .int y.num, .ref a1, .ref m1] ++ [.ref m2, .ref m3, .ref c9, .ref c10] ++ [.ref l4, .bl true, .int 0, .int 1])) h15
      have g15 := ((g12.same s12_14).app g14).same s15
      have e15 := upd_same (H := H14) (a := l6) (o := HO.lst ([.str (NText y), .non, .int y.num, .ref a1, .ref m1] ++ [.ref m2, .ref m3, .ref c9, .ref c10] ++ [.ref l4, .bl true, .int 0, .int 1]))
      have w14 := w12.same s12_14
      have ne15 := well_ne w14 h15
      generalize upd H14 l6 (.lst ([.str (NText y), .non, .int y.num, .ref a1, .ref m1] ++ [.ref m2, .ref m3, .ref c9, .ref c10] ++ [.ref l4, .bl true, .int 0, .int 1])) = H15 at *
      walk_at "rdf"
      refine rd_take (w14.same s15) (by decide) (by decide) fun i H16 o16 w16 i0 i1 => ?_
      have AA := g15.out o16 (w14.same s15)
      obtain ⟨v', z, ay, zm, hz⟩ := AA.ati i0 i1
      refine r_ixL (o16 _ _ ne15 e15) ay ?_
      refine q v' z _ ((Out.of (((((((s1.trans s2).trans s3).trans s4).trans s4_11).trans s12).trans s12_14).trans s15)).trans o16) w16 hz ?_
      have yk : y.num.natAbs < 2 ^ (k + 8) := Nat.lt_of_lt_of_le by0.1 (Nat.pow_le_pow_right (by decide) (by omega))
      have dk : ((y.den : Nat) : Int).natAbs < 2 ^ (k + 8) := by
        rw [Int.natAbs_natCast]
        exact Nat.lt_of_lt_of_le by0.2 (Nat.pow_le_pow_right (by decide) (by omega))
      have nl : (NText y).length ≤ 250 := ntext_250 by0 k1
      have one : ∀ {t : Tg}, szT t = 0 → dpT t = 0 → okT (k + 8) t → Fi (k + 8) (2 * n + 3) (m + 2) t := fun a b c => ⟨c, by omega, by omega⟩
      simp only [List.mem_append, List.mem_cons, List.not_mem_nil, or_false] at zm
      rcases zm with ((rfl | rfl | rfl | rfl | rfl) | (rfl | rfl | rfl | rfl)) | (rfl | rfl | rfl | rfl)
      · exact one rfl rfl (by unfold okT; exact ⟨NText_ft y, nl⟩)
      · exact one rfl rfl (by unfold okT; trivial)
      · exact one rfl rfl (by unfold okT; exact yk)
      · exact ((Fs.one (n := 0) (m := 0) (one_ yk)).app (Fs.one (n := 0) (m := 0) (one_ dk))).tup.mono (by omega) (by omega) (by omega)
      · exact one rfl rfl (by unfold okT; exact (by0.add b17).mono (by omega))
      · exact one rfl rfl (by unfold okT; exact (by0.sub b17).mono (by omega))
      · exact one rfl rfl (by unfold okT; exact (b1.sub by0).mono (by omega))
      · exact one rfl rfl (by unfold okT; exact (Bd.int (n := 2) (by decide) (by decide)).mono (by omega))
      · exact one rfl rfl (by unfold okT; exact (Bd.int (n := 2) (by decide) (by decide)).mono (by omega))
      · exact (Fs.one (n := 0) (m := 0) (k := k + 8) ⟨by unfold okT; exact by0.mono (by omega), Nat.le_refl _, Nat.le_refl _⟩).lst.mono (by omega) (by omega) (by omega)
      · exact one rfl rfl (by unfold okT; trivial)
      · exact one rfl rfl (by unfold okT; exact Nat.pow_pos (by decide))
      · exact one rfl rfl (by unfold okT; exact Nat.lt_of_lt_of_le (show (1 : Int).natAbs < 2 ^ 1 by decide) (Nat.pow_le_pow_right (by decide) (by omega)))
    walk_at "rdh"
    refine hv.tuple? T ?_
    walk_at "rdh"
    refine r_ite (fun e2 => ?_) (fun e2 => ?_)
    · cases hv with
      | tup hp ha => ?_
      | _ => cases e2
      rename_i p vs ts
      obtain ⟨m, rfl, fs⟩ := hx.parts
      have len := ha.len
      have tp : TpT T.C_Number d H p ts := ⟨vs, hp, ha⟩
      walk_at "rdh"
      refine ⟨p, vs, rfl, .inr (SqT.of hp), ?_⟩
      walk_at "rdh"
      refine ⟨_, _, rfl, ?_⟩
      walk_at "rdh"
      have tl40 : ts.length ≤ 40 := by have := szTs_len ts; have := fs.sz; omega
      have mx : 0 < (if (vs.length : Int) > 1 then (vs.length : Int) else 1) ∧ (if (vs.length : Int) > 1 then (vs.length : Int) else 1) ≤ 40 := by split <;> omega
      have mx2 : (if (vs.length : Int) > 1 then (vs.length : Int) else 1) ≤ (vs.length : Int) + 1 := by split <;> omega
      have mx3 : 0 < vs.length → (if (vs.length : Int) > 1 then (vs.length : Int) else 1) ≤ (vs.length : Int) := fun z => by split <;> omega
      generalize (if (vs.length : Int) > 1 then (vs.length : Int) else 1) = mxn at *
      refine rd_take wl mx.1 (Nat.lt_of_lt_of_le (show mxn.natAbs < 2 ^ 10 by omega) (by decide)) fun a H1 o1 w1 a0 a1 => ?_
      obtain ⟨a, rfl⟩ := Int.eq_ofNat_of_zero_le a0
      have al : a ≤ ts.length := by
        by_cases z : vs.length = 0
        · omega
        · have := mx3 (by omega); omega
      have t1 := tp.out o1 wl
      walk_at "rdh"
      refine slT_to t1 rfl fun b1 H2 s2 u1 => ?_
      walk_at "rdh"
      refine slT_from (n := a + 1) (t1.same s2) (by omega) fun b2 H3 s3 u2 => ?_
      refine catT (u1.same s3) u2 (by rw [List.length_take, List.length_drop]; omega) fun b3 H4 s4 r1 => ?_
      have s14 := (s2.trans s3).trans s4
      walk_at "rdh"
      refine slT_to (n := a + 1) (t1.same s14) (by omega) fun b4 H5 s5 u4 => ?_
      walk_at "rdh"
      refine slT_from (t1.same (s14.trans s5)) rfl fun b5 H6 s6 u5 => ?_
      refine catT (u4.same s6) u5 (by rw [List.length_take, List.length_drop]; omega) fun b6 H7 s7 r2 => ?_
      have s17 := ((s14.trans s5).trans s6).trans s7
      walk_at "rdh"
      refine r_revT ?_
      walk_at "rdh"
      obtain ⟨ws, hw, hdw⟩ := t1.same s17
      refine ⟨p, ws, rfl, SqT.of hw, fun b7 h8 => ?_⟩
      have s8 := Same.new (o := .tup ws.reverse) h8
      have r3 : TpT T.C_Number d (upd H7 b7 (.tup ws.reverse)) b7 ts.reverse := ⟨_, upd_same, hdw.rev.same s8⟩
      generalize upd H7 b7 (.tup ws.reverse) = H8 at *
      walk_at "rdh"
      refine ⟨p, ws, rfl, .inr (SqT.of (s8 _ _ hw)), fun b8 h9 => ?_⟩
      have s9 := Same.new (o := .lst ws) h9
      have s19 := (s17.trans s8).trans s9
      have w8 := w1.same (s17.trans s8)
      have r4 := TgAt.newL h9 (well_ne w8 h9) (hdw.same s8)
      generalize upd H8 b8 (.lst ws) = H9 at *
      walk_at "rdh"
      refine r_new (by show 0 ≤ 1000; decide) fun b9 h10 => ?_
      have s10 := Same.new (o := .tup []) h10
      have r5 : TgAt T.C_Number d (upd H9 b9 (.tup [])) (.ref b9) (.tup []) := TgAt.newT h10 .nil
      generalize upd H9 b9 (.tup []) = H10 at *
      walk_at "rdh"
      have s1_10 := s19.trans s10
      refine slT_to (n := a) (t1.same s1_10) rfl fun b10 H11 s11 r6 => ?_
      walk_at "rdh"
      refine r_new (by show 6 ≤ 1000; decide) fun l1 h12 => ?_
      have s12 := Same.new (o := .lst [.ref b3, .ref b6, .ref b7, .ref b8, .ref b9, .ref b10]) h12
      have e12 := upd_same (H := H11) (a := l1) (o := HO.lst [.ref b3, .ref b6, .ref b7, .ref b8, .ref b9, .ref b10])
      have g11 : TgAll T.C_Number d H11 [.ref b3, .ref b6, .ref b7, .ref b8, .ref b9, .ref b10] [.tup (ts.take a ++ ts.drop (a + 1)), .tup (ts.take (a + 1) ++ ts.drop a), .tup ts.reverse, .lst ts, .tup [], .tup (ts.take a)] :=
        .cons (r1.at_.same ((((((s5.trans s6).trans s7).trans s8).trans s9).trans s10).trans s11)) (.cons (r2.at_.same (((s8.trans s9).trans s10).trans s11)) (.cons (r3.at_.same ((s9.trans s10).trans s11)) (.cons (r4.same (s10.trans s11)) (.cons (r5.same s11) (.cons r6.at_ .nil)))))
      generalize upd H11 l1 (.lst [.ref b3, .ref b6, .ref b7, .ref b8, .ref b9, .ref b10]) = H12 at *
      have s1_12 := (s1_10.trans s11).trans s12
      obtain ⟨vt, hvt, gvt⟩ := id t1
      have vl := gvt.len
      walk_at "rdh"
      refine ⟨ty_list e12, ?_⟩
      walk_at "rdh"
      refine slV_to (n := a) (s1_12 _ _ hvt) rfl fun b11 H13 s13 u11 => ?_
      walk_at "rdh"
      refine r_revT ?_
      walk_at "rdh"
      refine slV_mid (n := a) ((s1_12.trans s13) _ _ hvt) rfl (by omega) (by omega) fun b12 H14 s14' u12 => ?_
      refine ⟨b12, _, rfl, SqT.of u12, fun b13 h15 => ?_⟩
      have s15 := Same.new (o := .tup ((vt.drop a).take 2).reverse) h15
      have u13 := upd_same (H := H14) (a := b13) (o := HO.tup ((vt.drop a).take 2).reverse)
      generalize upd H14 b13 (.tup ((vt.drop a).take 2).reverse) = H15 at *
      refine catV (s15 _ _ (s14' _ _ u11)) u13 (by rw [List.length_reverse, List.length_take, List.length_take, List.length_drop]; omega) fun b14 H16 s16 u14 => ?_
      walk_at "rdh"
      refine slV_from (n := a + 2) (((((s1_12.trans s13).trans s14').trans s15).trans s16) _ _ hvt) (by omega) fun b15 H17 s17' u15 => ?_
      refine catV (s17' _ _ u14) u15 (by rw [List.length_append, List.length_reverse, List.length_take, List.length_take, List.length_drop, List.length_drop]; omega) fun b16 H18 s18 u16 => ?_
      have s12_18 := ((((s13.trans s14').trans s15).trans s16).trans s17').trans s18
      have e18 := s12_18 _ _ e12
      walk_at "rdh"
      refine r_append e18 (by show 6 ≤ 1000; decide) ?_
      have e19 := upd_same (H := H18) (a := l1) (o := HO.lst ([.ref b3, .ref b6, .ref b7, .ref b8, .ref b9, .ref b10] ++ [.ref b16]))
      have s11_19 : Same H11 (upd H18 l1 (.lst ([.ref b3, .ref b6, .ref b7, .ref b8, .ref b9, .ref b10] ++ [.ref b16]))) := fun b o e => by
        rw [upd_ne (ne_of_none e h12)]
        exact (s12.trans s12_18) _ _ e
      have u19 : (upd H18 l1 (.lst ([.ref b3, .ref b6, .ref b7, .ref b8, .ref b9, .ref b10] ++ [.ref b16]))) b16 = some (.tup (vt.take a ++ ((vt.drop a).take 2).reverse ++ vt.drop (a + 2))) := by
        rw [upd_ne (fun z => by rw [z, e18] at u16; cases u16)]
        exact u16
      generalize upd H18 l1 (.lst ([.ref b3, .ref b6, .ref b7, .ref b8, .ref b9, .ref b10] ++ [.ref b16])) = H19 at *
      have s1_19 := (s1_10.trans s11).trans s11_19
      have gv19 := gvt.same s1_19
      have g19 : TgAll T.C_Number d H19 ([.ref b3, .ref b6, .ref b7, .ref b8, .ref b9, .ref b10] ++ [.ref b16]) ([.tup (ts.take a ++ ts.drop (a + 1)), .tup (ts.take (a + 1) ++ ts.drop a), .tup ts.reverse, .lst ts, .tup [], .tup (ts.take a)] ++ [.tup (ts.take a ++ ((ts.drop a).take 2).reverse ++ ts.drop (a + 2))]) :=
        (g11.same s11_19).app (.cons (.tup u19 (((gv19.take a).app ((gv19.drop a).take 2).rev).app (gv19.drop (a + 2)))) .nil)
      have t19 := t1.same s1_19
      have w19 := w1.same s1_19
      walk_at "rdh"
      refine r_new (by show 1 ≤ 1000; decide) fun b20 h20 => ?_
      have s20 := Same.new (o := .tup [.int 0]) h20
      have u20 := upd_same (H := H19) (a := b20) (o := HO.tup [.int 0])
      generalize upd H19 b20 (.tup [.int 0]) = H20 at *
      refine catT (t19.same s20) (⟨_, u20, .cons (.int 0) .nil⟩ : TpT T.C_Number d H20 b20 [.int 0]) (by show ts.length + 1 ≤ 100; omega) fun b21 H21 s21 r8 => ?_
      walk_at "rdh"
      refine r_new (by show 1 ≤ 1000; decide) fun b22 h22 => ?_
      have s22 := Same.new (o := .tup [.ref p]) h22
      have r9 : TgAt T.C_Number d (upd H21 b22 (.tup [.ref p])) (.ref b22) (.tup [.tup ts]) := TgAt.newT h22 (.cons ((t19.same s20).same s21).at_ .nil)
      generalize upd H21 b22 (.tup [.ref p]) = H22 at *
      walk_at "rdh"
      refine r_dnewQ fun b23 h23 => ?_
      have s23 := Same.new (o := .dK []) h23
      have r10 : TgAt T.C_Number d (upd H22 b23 (.dK [])) (.ref b23) .dct := .dct upd_same
      generalize upd H22 b23 (.dK []) = H23 at *
      walk_at "rdh"
      refine r_new (by show 4 ≤ 1000; decide) fun l2 h24 => ?_
      have s24 := Same.new (o := .lst [.ref b21, .ref b22, .non, .ref b23]) h24
      have e24 := upd_same (H := H23) (a := l2) (o := HO.lst [.ref b21, .ref b22, .non, .ref b23])
      have g24 : TgAll T.C_Number d (upd H23 l2 (.lst [.ref b21, .ref b22, .non, .ref b23])) [.ref b21, .ref b22, .non, .ref b23] [.tup (ts ++ [.int 0]), .tup [.tup ts], .non, .dct] :=
        .cons (((r8.at_.same s22).same s23).same s24) (.cons ((r9.same s23).same s24) (.cons .non (.cons (r10.same s24) .nil)))
      generalize upd H23 l2 (.lst [.ref b21, .ref b22, .non, .ref b23]) = H24 at *
      have s19_24 := (((s20.trans s21).trans s22).trans s23).trans s24
      refine r_cat (s19_24 _ _ e19) e24 (by show 7 + 4 ≤ 100000; decide) fun l3 h25 => ?_
      have s25 := Same.new (o := .lst ([.ref b3, .ref b6, .ref b7, .ref b8, .ref b9, .ref b10] ++ [.ref b16] ++ [.ref b21, .ref b22, .non, .ref b23])) h25
      have e25 := upd_same (H := H24) (a := l3) (o := HO.lst ([.ref b3, .ref b6, .ref b7, .ref b8, .ref b9, .ref b10] ++ [.ref b16] ++ [.ref b21, .ref b22, .non, .ref b23]))
      have g25 := ((g19.same s19_24).app g24).same s25
      have w24 := w19.same s19_24
      have ne25 := well_ne w24 h25
      generalize upd H24 l3 (.lst ([.ref b3, .ref b6, .ref b7, .ref b8, .ref b9, .ref b10] ++ [.ref b16] ++ [.ref b21, .ref b22, .non, .ref b23])) = H25 at *
      walk_at "rdh"
      refine rd_take (w24.same s25) (by decide) (by decide) fun i H26 o26 w26 i0 i1 => ?_
      have AA := g25.out o26 (w24.same s25)
      obtain ⟨v', z, ay, zm, hz⟩ := AA.ati i0 i1
      refine r_ixL (o26 _ _ ne25 e25) ay ?_
      refine q v' z _ ((o1.trans (Out.of ((s1_19.trans s19_24).trans s25))).trans o26) w26 hz ?_
      obtain ⟨i1', j1', f1, f2, le1⟩ := fs.cut a
      obtain ⟨i2', j2', f3, f4, le2⟩ := fs.cut (a + 1)
      obtain ⟨i3', j3', f5, f6, le3⟩ := f2.cut 2
      rw [List.drop_drop] at f6
      have k8 : k ≤ k + 8 := by omega
      simp only [List.mem_append, List.mem_cons, List.not_mem_nil, or_false] at zm
      rcases zm with ((rfl | rfl | rfl | rfl | rfl | rfl) | rfl) | (rfl | rfl | rfl | rfl)
      · exact (f1.app f4).tup.mono k8 (by omega) (by omega)
      · exact (f3.app f2).tup.mono k8 (by omega) (by omega)
      · exact fs.rev.tup.mono k8 (by omega) (by omega)
      · exact fs.lst.mono k8 (by omega) (by omega)
      · exact (Fs.nil (k := k) (n := 0) (m := 0)).tup.mono k8 (by omega) (by omega)
      · exact f1.tup.mono k8 (by omega) (by omega)
      · exact ((f1.app f5.rev).app f6).tup.mono k8 (by omega) (by omega)
      · exact (fs.app (Fs.one (n := 0) ((one_ (k := k) (i := 0) (Nat.pow_pos (by decide))).mono (Nat.le_refl _) (Nat.le_refl _) (Nat.zero_le _)))).tup.mono k8 (by omega) (by omega)
      · exact (Fs.one fs.tup).tup.mono k8 (by omega) (by omega)
      · exact ⟨by unfold okT; trivial, Nat.zero_le _, Nat.zero_le _⟩
      · exact ⟨by unfold okT; trivial, Nat.zero_le _, Nat.zero_le _⟩
    walk_at "rdh"
    refine hv.int? T ?_
    walk_at "rdh"
    refine r_ite (fun e3 => ?_) (fun e3 => ?_)
    · obtain ⟨z, iv, zb⟩ : ∃ z, IV v z ∧ z.natAbs < 2 ^ k := by
        cases hv with
        | int z => exact ⟨z, .int z, by have := hx.ok; unfold okT at this; exact this⟩
        | bl b =>
          refine ⟨_, .bl b, ?_⟩
          have : (2 : Nat) ^ 1 ≤ 2 ^ k := Nat.pow_le_pow_right (by decide) (by omega)
          cases b <;> simp <;> omega
        | _ => cases e3
      walk_at "rdh"
      refine ⟨z, 1, iv, rfl, trivial, ?_⟩
      walk_at "rdh"
      refine ⟨z, 1, iv, rfl, trivial, ?_⟩
      walk_at "rdh"
      refine ⟨z, 2, iv, rfl, trivial, ?_⟩
      walk_at "rdh"
      refine ⟨0, z, rfl, iv, trivial, ?_⟩
      walk_at "rdh"
      refine ⟨z, 0, iv, rfl, trivial, ?_⟩
      walk_at "rdh"
      refine ⟨v, z, rfl, iv, Nat.lt_of_lt_of_le zb (Nat.pow_le_pow_right (by decide) (by omega)), fun t ft tl => ?_⟩
      walk_at "rdh"
      refine r_new (by show 1 ≤ 1000; decide) fun a1 h1 => ?_
      have s1 := Same.new (o := .tup [v]) h1
      have r1 : TgAt T.C_Number d (upd H a1 (.tup [v])) (.ref a1) (.tup [x]) := TgAt.newT h1 (.cons hv .nil)
      generalize upd H a1 (.tup [v]) = H1 at *
      walk_at "rdh"
      refine r_new (by show 10 ≤ 1000; decide) fun l1 h2 => ?_
      have s2 := Same.new (o := .lst [.int (z + 1), .int (z - 1), .int (z + 2), .int (0 - z), .int 0, .bl (decide (0 < z)), .str t, .non, .int (10 ^ Int.toNat 39), .ref a1]) h2
      have e2 := upd_same (H := H1) (a := l1) (o := HO.lst [.int (z + 1), .int (z - 1), .int (z + 2), .int (0 - z), .int 0, .bl (decide (0 < z)), .str t, .non, .int (10 ^ Int.toNat 39), .ref a1])
      have g2 : TgAll T.C_Number d (upd H1 l1 (.lst [.int (z + 1), .int (z - 1), .int (z + 2), .int (0 - z), .int 0, .bl (decide (0 < z)), .str t, .non, .int (10 ^ Int.toNat 39), .ref a1])) [.int (z + 1), .int (z - 1), .int (z + 2), .int (0 - z), .int 0, .bl (decide (0 < z)), .str t, .non, .int (10 ^ Int.toNat 39), .ref a1] [.int (z + 1), .int (z - 1), .int (z + 2), .int (0 - z), .int 0, .bl (decide (0 < z)), .str t, .non, .int (10 ^ Int.toNat 39), .tup [x]] :=
        .cons (.int _) (.cons (.int _) (.cons (.int _) (.cons (.int _) (.cons (.int _) (.cons (.bl _) (.cons (.str _) (.cons .non (.cons (.int _) (.cons (r1.same s2) .nil)))))))))
      generalize upd H1 l1 (.lst [.int (z + 1), .int (z - 1), .int (z + 2), .int (0 - z), .int 0, .bl (decide (0 < z)), .str t, .non, .int (10 ^ Int.toNat 39), .ref a1]) = H2 at *
      walk_at "rdh"
      obtain ⟨L1, T1, e2', g2', len1, fit1⟩ : ∃ L1 T1, H2 l1 = some (.lst L1) ∧ TgAll T.C_Number d H2 L1 T1 ∧ L1.length = 10 ∧ ∀ t ∈ T1, Fi (k + 8) (2 * n + 3) (m + 2) t := by
        refine ⟨_, _, e2, g2, rfl, fun u hu => ?_⟩
        have kk : (2 : Nat) ^ 140 ≤ 2 ^ k := Nat.pow_le_pow_right (by decide) k0
        have kf : (2 : Nat) ^ (k + 8) = 2 ^ k * 256 := by rw [Nat.pow_add]
        have b40 : (2 : Nat) ^ 140 = 1393796574908163946345982392040522594123776 := by decide
        have e39 : (10 : Int) ^ Int.toNat 39 = 1000000000000000000000000000000000000000 := rfl
        rw [b40] at kk
        have I1 : ∀ {i : Int}, i.natAbs < 2 ^ (k + 8) → Fi (k + 8) (2 * n + 3) (m + 2) (.int i) := fun h => (one_ h).mono (Nat.le_refl _) (by omega) (by omega)
        simp only [List.mem_cons, List.not_mem_nil, or_false] at hu
        rcases hu with rfl | rfl | rfl | rfl | rfl | rfl | rfl | rfl | rfl | rfl
        · exact I1 (by rw [kf]; omega)
        · exact I1 (by rw [kf]; omega)
        · exact I1 (by rw [kf]; omega)
        · exact I1 (by rw [kf]; omega)
        · exact I1 (by rw [kf]; omega)
        · exact ⟨by unfold okT; trivial, Nat.zero_le _, Nat.zero_le _⟩
        · exact ⟨by unfold okT; exact ⟨ft, tl⟩, Nat.zero_le _, Nat.zero_le _⟩
        · exact ⟨by unfold okT; trivial, Nat.zero_le _, Nat.zero_le _⟩
        · exact I1 (by rw [kf, e39]; omega)
        · exact (Fs.one hx).tup.mono (by omega) (by omega) (by omega)
      clear e2 g2
      have w2 := wl.same (s1.trans s2)
      have s02 := s1.trans s2
      cases iv
      all_goals first | refine .inl ⟨_, rfl, ?_⟩ | refine .inr ⟨_, rfl, ?_⟩
      all_goals
        walk_at "rdh"
        refine mk_num1 fun c3 H3 s3 _ hc3 => ?_
        have b3 : ∀ j : Int, Bd 20 (((j % 10 ^ Int.toNat 6 : Int)) : Rat) := fun j => Bd.int (n := 20) (Nat.lt_of_le_of_lt (show (j % 10 ^ Int.toNat 6 : Int).natAbs ≤ 999999 by have e6 : (10 : Int) ^ Int.toNat 6 = 1000000 := rfl; rw [e6]; omega) (by decide)) (by decide)
        walk_at "rdh"
        refine r_new (by show 2 ≤ 1000; decide) fun l2 h4 => ?_
        have s4 := Same.new (o := .lst [.ref c3, .int 1]) h4
        have e4 := upd_same (H := H3) (a := l2) (o := HO.lst [.ref c3, .int 1])
        have g4 : TgAll T.C_Number d (upd H3 l2 (.lst [.ref c3, .int 1])) [.ref c3, .int 1] _ := .cons ((TgAt.num hc3).same s4) (.cons (.int 1) .nil)
        generalize upd H3 l2 (.lst [.ref c3, .int 1]) = H4 at *
        refine r_cat ((s3.trans s4) _ _ e2') e4 (by rw [len1]; show 10 + 2 ≤ 100000; decide) fun l3 h5 => ?_
        have s5 := Same.new (o := .lst (L1 ++ [.ref c3, .int 1])) h5
        have e5 := upd_same (H := H4) (a := l3) (o := HO.lst (L1 ++ [.ref c3, .int 1]))
        have g5 := (((g2'.same s3).same s4).app g4).same s5
        have w4 := w2.same (s3.trans s4)
        have ne5 := well_ne w4 h5
        generalize upd H4 l3 (.lst (L1 ++ [.ref c3, .int 1])) = H5 at *
        walk_at "rdh"
        refine rd_take (w4.same s5) (by decide) (by decide) fun i H6 o6 w6 i0 i1 => ?_
        have AA := g5.out o6 (w4.same s5)
        have l1 := g2'.len
        obtain ⟨y, u, ay, um, hu⟩ := AA.ati i0 (by rw [List.length_append, ← l1, len1]; exact i1)
        refine r_ixL (o6 _ _ ne5 e5) ay ?_
        refine q y u _ ((Out.of (((s02.trans s3).trans s4).trans s5)).trans o6) w6 hu ?_
        rcases List.mem_append.mp um with um | um
        · exact fit1 u um
        · simp only [List.mem_cons, List.not_mem_nil, or_false] at um
          rcases um with rfl | rfl
          · exact ⟨by unfold okT; exact (b3 _).mono (by omega), Nat.zero_le _, Nat.zero_le _⟩
          · exact (one_ (Nat.lt_of_lt_of_le (show (1 : Int).natAbs < 2 ^ 1 by decide) (Nat.pow_le_pow_right (by decide) (by omega)))).mono (Nat.le_refl _) (by omega) (by omega)
    · walk_at "rdh"
      refine r_new (by show 0 ≤ 1000; decide) fun a1 h1 => ?_
      have s1 := Same.new (o := .tup []) h1
      walk_at "rdh"
      refine r_new (by show 4 ≤ 1000; decide) fun a2 h2 => ?_
      have s2 := Same.new (o := .lst [.non, .int 0, .ref a1, .str "x"]) h2
      have ne2 := well_ne (wl.same s1) h2
      walk_at "rdh"
      refine rd_take (wl.same (s1.trans s2)) (by decide) (by decide) fun i H2 o2 w2 i0 i1 => ?_
      have AA : TgAll T.C_Number d H2 [.non, .int 0, .ref a1, .str "x"] [.non, .int 0, .tup [], .str "x"] :=
        .cons .non (.cons (.int _) (.cons (((TgAt.newT h1 .nil).same s2).out o2 (wl.same (s1.trans s2))) (.cons (.str _) .nil)))
      obtain ⟨y, z, ay, zm, hz⟩ := AA.ati i0 i1
      refine r_ixL (o2 _ _ ne2 upd_same) ay ?_
      refine q y z _ ((Out.of (s1.trans s2)).trans o2) w2 hz ?_
      simp only [List.mem_cons, List.not_mem_nil, or_false] at zm
      rcases zm with rfl | rfl | rfl | rfl
      · exact ⟨by unfold okT; trivial, Nat.zero_le _, Nat.zero_le _⟩
      · exact ⟨by unfold okT; exact Nat.pow_pos (by decide), Nat.zero_le _, Nat.zero_le _⟩
      · exact (Fs.nil (k := k) (n := 0) (m := 0)).tup.mono (by omega) (by omega) (by omega)
      · exact ⟨by unfold okT; exact ⟨by unfold FT; decide, by decide⟩, Nat.zero_le _, Nat.zero_le _⟩
end
end My

namespace My
open PySem L2 TL
section
variable {P : Program} {w : World} {K : PySem.W.Frag} {mg : Str → Option Value} {base : Heap}
def spBent (C : Addr) : Nat → Sp
  | 0 => fun _ _ _ _ => False
  | j + 1 => fun vs H Q _ => ∃ (d : Addr) (v : V) (x : Tg) (h : Int) (k n m : Nat), vs = [.ref d, v, .int h] ∧ WellAt H d ∧ TgAt C d H v x ∧ Fi k n m x ∧ (140 ≤ k ∧ k ≤ 380 ∧ n ≤ 40 ∧ 0 ≤ h ∧ h ≤ (j : Int)) ∧
    ∀ (v' : V) (x' : Tg) (H' : Hp), Out d H H' → WellAt H' d → TgAt C d H' v' x' → Fi (k + 8) (2 * n + 3) (m + 2) x' → Q v' H'
theorem bent_at {C : Addr} {j : Nat} {d : Addr} {v : V} {x : Tg} {h : Int} {k n m : Nat} {H : Hp} {Q : VK} {E : XK} (wl : WellAt H d) (hv : TgAt C d H v x) (hx : Fi k n m x) (b : 140 ≤ k ∧ k ≤ 380 ∧ n ≤ 40 ∧ 0 ≤ h ∧ h + 1 ≤ (j : Int))
    (q : ∀ (v' : V) (x' : Tg) (H' : Hp), Out d H H' → WellAt H' d → TgAt C d H' v' x' → Fi (k + 8) (2 * n + 3) (m + 2) x' → Q v' H') : spBent C j [.ref d, v, .int h] H Q E := by
  cases j with
  | zero => exact absurd b.2.2.2.2 (by have := b.2.2.2.1; omega)
  | succ j => exact ⟨d, v, x, h, k, n, m, rfl, wl, hv, hx, ⟨b.1, b.2.1, b.2.2.1, b.2.2.2.1, by have := b.2.2.2.2; omega⟩, q⟩
theorem ok_l_bentN (T : Txt w K mg) : ∀ j, FnOk P w K mg base CX0 (j + 4) T.f_l_bent T.fd_l_bent ["_law_well_here", "_law_thing", "_law_deep"] (spBent T.C_Number j)
  | 0 => T.F_l_bent.ok sc_l_bent (fun vs H Q E h => (show False from h).elim) (fun cdv A outer s H vs Q E hr h => (show False from h).elim)
  | j + 1 => by
    have ih := ok_l_bentN T j
    refine T.F_l_bent.ok sc_l_bent (fun vs H Q E h => ?_) (fun cdv A outer s H vs Q E hr h => ?_)
    · obtain ⟨d, v, x, h, k, n, m, rfl, _⟩ := h
      rfl
    · obtain ⟨d, v, x, h, k, n, m, rfl, wl, hv, hx, ⟨k0, k1, n1, h0, h1⟩, q⟩ := h
      refine ⟨_, (C8.pss_cut (ps_if (PW.pt (pw_and (pt_val (pe_callB call_isi (by rfl) T.n_isinstance (by decide +kernel) (pa_cons (pv 1) (pa_cons (pe_bltn (v := .ty "tuple") (by rfl) T.n_tuple (by decide +kernel) rfl) pa_nil)))) (pw_and (pt_cmpR (op_neNilT hr.units) (pv 1) (pe_tup pa_nil) (nomark _)) (pw_and1 (pt_cmpR op_gt (pv 2) pe_int (nomark _))))))
  (pss_cons (ps_set (i := 3) sc_l_bent.nd rfl (Or.inl rfl) (pe_call (ok_l_take T) (hr.mono (by omega)) (by rfl) T.m_l_take T.F_l_take.kp T.b_l_take .nil pass0 (pa_cons (pv 0) (pa_cons (pe_callB call_len_seq (by rfl) T.n_len PySem.boot_len (pa_cons (pv 1) pa_nil)) pa_nil))))
 (pss_one (ps_ret (pe_op op_catA (pe_op op_catA (pe_slice sl_tupA (pv 1) po_none (po_some (pv 3))) (pe_tup (pa_cons (pe_call ((fun _ => ih) T) (hr.mono (by omega)) (by rfl) T.m_l_bent T.F_l_bent.kp T.b_l_bent .nil pass0 (pa_cons (pv 0) (pa_cons (pe_ix ix_tup (pv 1) (pv 3) (fun _ _ => rfl)) (pa_cons (pe_op op_sub (pv 2) pe_int) pa_nil)))) pa_nil))) (pe_slice sl_tupA (pv 1) (po_some (pe_op op_add (pv 3) pe_int)) po_none)))))
  pss_nil)
 (pss_one (ps_ret (pe_call (ok_l_odd T) (hr.mono (by omega)) (by rfl) T.m_l_odd T.F_l_odd.kp T.b_l_odd .nil pass0 (pa_cons (pv 0) (pa_cons (pv 1) pa_nil)))))), ?_⟩
      refine r_cut (fun σ' H' => σ' = [some (.ref d), some v, some (.int h), none] ∧ Same H H') ?_ ?_
      · walk_at "rdh"
        refine hv.tuple? T ?_
        walk_at "rdh"
        refine r_ite (fun e => ?_) (fun e => ?_)
        rotate_left
        · walk_at "rdh"
          exact ⟨rfl, Same.refl _⟩
        cases hv with
        | tup hp hd => ?_
        | _ => cases e
        rename_i p vs ts
        walk_at "rdh"
        refine r_new (by show 0 ≤ 1000; decide) fun p0 q0 => ?_
        have s0 := Same.new (o := .tup []) q0
        refine r_neNilT (SqT.of (s0 _ _ hp)) (SqT.of upd_same) ?_
        walk_at "rdh"
        refine r_ite (fun e0 => ?_) (fun e0 => ?_)
        rotate_left
        · walk_at "rdh"
          exact ⟨rfl, s0⟩
        have vn : vs.length ≠ 0 := by
          intro z
          rw [List.length_eq_zero_iff.mp z] at e0
          cases e0
        walk_at "rdh"
        refine r_ite (fun e8 => ?_) (fun e8 => ?_)
        rotate_left
        · walk_at "rdh"
          exact ⟨rfl, s0⟩
        have h8 : 0 < h := of_decide_eq_true e8
        have hlen := hd.len
        obtain ⟨m, rfl, fs⟩ := hx.parts
        have tlen : ts.length ≤ 40 := by have := szTs_len ts; have := fs.sz; omega
        have tp : TpT T.C_Number d H p ts := ⟨vs, hp, hd⟩
        have wl0 := wl.same s0
        walk_at "rdh"
        refine ⟨p, vs, rfl, .inr (SqT.of (s0 _ _ hp)), ?_⟩
        walk_at "rdh"
        refine rd_take wl0 (by omega) (Nat.lt_of_lt_of_le (show ((vs.length : Int)).natAbs < 2 ^ 10 by omega) (by decide)) fun a H1 o1 w1 a0 a1 => ?_
        obtain ⟨a, rfl⟩ := Int.eq_ofNat_of_zero_le a0
        have t1 : TpT T.C_Number d H1 p ts := (tp.same s0).out o1 wl0
        obtain ⟨x, hxa⟩ : ∃ x, ts[a]? = some x := ⟨ts[a]'(by omega), List.getElem?_eq_getElem (by omega)⟩
        obtain ⟨fi, fj, fl, f1, f2, f3, fle⟩ := fs.cut3 hxa
        walk_at "rdh"
        refine slT_to t1 rfl fun b1 H2 s2 u1 => ?_
        obtain ⟨ws2, hw2, hdw2⟩ := t1.same s2
        have wlen2 := hdw2.len
        have av : ws2[a]? = some (ws2[a]'(by omega)) := List.getElem?_eq_getElem (by omega)
        obtain ⟨x', hx', dx⟩ := hdw2.get av
        have ex : x' = x := by rw [hxa] at hx'; exact (Option.some.inj hx').symm
        subst ex
        walk_at "rdh"
        refine r_ixT hw2 (atI_nat av) ?_
        walk_at "rdh"
        have w2 := w1.same s2
        refine bent_at w2 dx f2 ⟨k0, k1, by omega, by omega, by omega⟩ fun v' y H12 o12 w12 hy fy => ?_
        have t12 : TpT T.C_Number d H12 p ts := (t1.same s2).out o12 w2
        have u12 := u1.out o12 w2
        walk_at "rdh"
        refine r_new (by show 1 ≤ 1000; decide) fun c2 qc => ?_
        have sc := Same.new (o := .tup [v']) qc
        refine catT (u12.same sc) (fs := [y]) ⟨_, upd_same, .cons (hy.same sc) .nil⟩ (by rw [List.length_take]; show min a ts.length + 1 ≤ 100; omega) fun c3 H14 s14 u14 => ?_
        walk_at "rdh"
        have s12_14 := sc.trans s14
        refine slT_from (n := a + 1) (t12.same s12_14) (by omega) fun c4 H15 s15 u15 => ?_
        refine catT (u14.same s15) u15 (by rw [List.length_append, List.length_take, List.length_drop]; show min a ts.length + 1 + _ ≤ 100; omega) fun c5 H16 s16 u16 => ?_
        refine q _ _ H16 ?_ (w12.same ((s12_14.trans s15).trans s16)) u16.at_ ?_
        · exact (Out.of s0).trans (o1.trans ((Out.of s2).trans (o12.trans (Out.of ((s12_14.trans s15).trans s16)))))
        · exact (((f1.mono (k' := k + 8) (by omega) (Nat.le_refl _) (show m ≤ m + 2 by omega)).app (Fs.one fy)).app (f3.mono (by omega) (Nat.le_refl _) (by omega))).tup.mono (by omega) (by omega) (by omega)
      · rintro σ' H1 ⟨rfl, s1⟩
        walk_at "rdh"
        exact ⟨d, v, x, k, n, m, rfl, wl.same s1, hv.same s1, hx, ⟨k0, k1, n1⟩, fun v' x' H2 o2 w2 hz fz => q v' x' H2 ((Out.of s1).trans o2) w2 hz fz⟩
theorem ok_l_bent (T : Txt w K mg) : FnOk P w K mg base CX0 8 T.f_l_bent T.fd_l_bent ["_law_well_here", "_law_thing", "_law_deep"] (spBent T.C_Number 4) := ok_l_bentN T 4
end
end My

namespace My
open PySem PySem.Spec PyProof.Rows L2 PySem.Builtin TL
/-! ### repr of things of any kind, own objects with an own __repr__ among them -/
theorem lloop_depth {A : Around} {us : List Value} : (A.under (.builtin "list.__repr__.loop" ⟨us, []⟩)).depth ≤ A.depth + 1 ∧ (A.under (.builtin "list.__repr__.loop" ⟨us, []⟩)).handled = A.handled ∧ (A.under (.builtin "list.__repr__.loop" ⟨us, []⟩)).frames = A.frames := by
  refine ⟨?_, ?_, ?_⟩
  · simp [Around.under, Code.weight, Code.isCreation, Code.isGuard, Code.isCaller, Code.frames, Code.isFrame]
    try (split <;> omega)
  · first | rfl | simp [Around.under]
  · first | rfl | simp [Around.under, Code.envs, pushEnvs]
theorem room_lloop {n : Nat} {A : Around} {us : List Value} (r : Room (n + 1) A) : Room n (A.under (.builtin "list.__repr__.loop" ⟨us, []⟩)) := by
  obtain ⟨d, h, _⟩ := @lloop_depth A us
  refine ⟨h.trans r.hd, ?_, ?_⟩
  · have := r.dp; omega
  · have := r.un
    rw [units_under_list_loop]
    omega
section
variable {X : Cx} {pins : List (Addr × Obj)} {σ : L2.St} {H : Hp} {s : Shared}
theorem dict_none (I : Inv X pins σ H s) {p : Addr} (h : H p = some (.dK [])) : ∃ (o : Obj) (n : Nat), s.heap.get? p = some o ∧ o.cls = .type "dict" ∧ o.data = .dict #[] n ∧ (p == sysModules) = false := by
  obtain ⟨_, hs, vs, kv, dd⟩ := dk_of I.hok h
  cases kv
  obtain ⟨o, es, ep, ho, hc, hd, _, hp, _⟩ := dd
  obtain ⟨l⟩ := es
  have hz := hp.length
  have : l = [] := List.eq_nil_of_length_eq_zero (by simpa using hz)
  subst this
  exact ⟨o, ep, ho, hc.1, hd, hs⟩
end
mutual
def shT (nt : Rat → Str) : Tg → Str
  | .non => ("None" : String)
  | .bl b => if b = true then Str.ofString "True" else Str.ofString "False"
  | .int i => ((toString i : String) : Str)
  | .str z => reprText z
  | .num x => nt x
  | .tup ts => tupleText (shTs nt ts)
  | .lst ts => listText (shTs nt ts)
  | .dct => dictText []
def shTs (nt : Rat → Str) : List Tg → List Str
  | [] => []
  | t :: ts => shT nt t :: shTs nt ts
end
theorem shTs_len (nt : Rat → Str) : ∀ ts : List Tg, (shTs nt ts).length = ts.length
  | [] => rfl
  | t :: ts => by
    show (shTs nt ts).length + 1 = ts.length + 1
    rw [shTs_len nt ts]
/-! one thing is one thing -/
theorem nf_inj {x y : Rat} (h : nf x = nf y) : x = y := by
  unfold nf at h
  have h1 : V.int x.num = V.int y.num := by
    have := congrArg (fun l => (l.map Prod.snd)[0]?) h
    simpa using this
  have h2 : V.int (x.den : Int) = V.int (y.den : Int) := by
    have := congrArg (fun l => (l.map Prod.snd)[1]?) h
    simpa using this
  injection h1 with h1
  injection h2 with h2
  exact Rat.ext h1 (by omega)
theorem num_det {C : Addr} {H : Hp} {p : Addr} {x y : Rat} (h : NumAt C H p x) (g : NumAt C H p y) : x = y := by
  obtain ⟨a, e⟩ := h
  obtain ⟨b, f⟩ := g
  rw [e] at f
  injection f with f
  injection f with _ _ f
  exact nf_inj f
mutual
theorem TgAt.det {C d : Addr} {H : Hp} : ∀ {v : V} {x y : Tg}, TgAt C d H v x → TgAt C d H v y → x = y
  | _, _, _, .non, h => by cases h; rfl
  | _, _, _, .bl _, h => by cases h; rfl
  | _, _, _, .int _, h => by cases h; rfl
  | _, _, _, .str _, h => by cases h; rfl
  | _, _, _, .num hn, h => by
    obtain ⟨dx, hp⟩ := id hn
    cases h with
    | num hq => rw [num_det hn hq]
    | tup hq b => rw [hp] at hq; cases hq
    | lst _ hq _ => rw [hp] at hq; cases hq
    | dct hq => rw [hp] at hq; cases hq
  | _, _, _, .tup hp a, h => by
    cases h with
    | num hq => obtain ⟨dx, hq⟩ := hq; rw [hp] at hq; cases hq
    | tup hq b =>
      rw [hp] at hq
      injection hq with hq
      injection hq with hq
      subst hq
      rw [TgAll.det a b]
    | lst _ hq _ => rw [hp] at hq; cases hq
    | dct hq => rw [hp] at hq; cases hq
  | _, _, _, .lst _ hp a, h => by
    cases h with
    | num hq => obtain ⟨dx, hq⟩ := hq; rw [hp] at hq; cases hq
    | tup hq b => rw [hp] at hq; cases hq
    | lst _ hq b =>
      rw [hp] at hq
      injection hq with hq
      injection hq with hq
      subst hq
      rw [TgAll.det a b]
    | dct hq => rw [hp] at hq; cases hq
  | _, _, _, .dct hp, h => by
    cases h with
    | num hq => obtain ⟨dx, hq⟩ := hq; rw [hp] at hq; cases hq
    | tup hq b => rw [hp] at hq; cases hq
    | lst _ hq b => rw [hp] at hq; cases hq
    | dct hq => rfl
theorem TgAll.det {C d : Addr} {H : Hp} : ∀ {vs : List V} {xs ys : List Tg}, TgAll C d H vs xs → TgAll C d H vs ys → xs = ys
  | _, _, _, .nil, h => by cases h; rfl
  | _, _, _, .cons a b, h => by
    cases h with
    | cons a' b' => rw [TgAt.det a a', TgAll.det b b']
end
/-- no thing of this depth or less is under way -/
def ClT (g : List Code) (C d : Addr) (H : Hp) (n : Nat) : Prop := ∀ b y, TgAt C d H (.ref b) y → dpT y ≤ n → Clear g b
theorem ClT.down {g : List Code} {C d a : Addr} {H : Hp} {n : Nat} {x : Tg} {id : String} {rest : List Value} (h : ClT g C d H n) (ha : TgAt C d H (.ref a) x) (hx : dpT x ≤ n) {m : Nat} (hm : m < dpT x) : ClT (.builtin id ⟨.ref a :: rest, []⟩ :: g) C d H m := fun b y hb hy =>
  (h b y hb (by omega)).cons (a := a) fun e => by
    subst e
    have := TgAt.det ha hb
    subst this
    omega
section
variable {X : Cx} {pins : List (Addr × Obj)} {σ : L2.St} {H : Hp} {C d : Addr}
def ShQ (X : Cx) (σ : L2.St) (C d : Addr) (H : Hp) (m n : Nat) (u : Value) (t : Str) : Prop := ∀ (pins : List (Addr × Obj)) (base : Nat) (A : Around) (g : List Code) (s : Shared) (R : Str → Shared → Prop), base + t.length ≤ sizeLine → A.guards = some g → ClT g C d H n → Room m A → A.frames = X.A.frames → Inv X pins σ H s →
  (∀ s2, Inv X pins σ H s2 → R t s2) → wpAny (model X.prog X.w) A (pyReprUnder base u) R X.xe s
theorem ShQ.mono {m m' n n' : Nat} {u : Value} {t : Str} (h : ShQ X σ C d H m n u t) (a : m ≤ m') (b : n ≤ n') : ShQ X σ C d H m' n' u t :=
  fun pins base A g s R hz hg hcl hr fr I q => h pins base A g s R hz hg (fun c y hc hy => hcl c y hc (Nat.le_trans hy b)) (hr.mono a) fr I q
theorem shq_fold {m n : Nat} {A : Around} {g : List Code} (hg : A.guards = some g) (hcl : ClT g C d H n) (hr : Room m A) (fr : A.frames = X.A.frames) : ∀ (l : List Value) (ts : List Str) (acc : Array Str) (k : Nat) (s : Shared) (R : (Array Str × Nat) → Shared → Prop), ts.length = l.length → (∀ (i : Nat) (u : Value) (t : Str), l[i]? = some u → ts[i]? = some t → ShQ X σ C d H m n u t) → k + piled ts ≤ sizeLine → Inv X pins σ H s →
    (∀ s2, Inv X pins σ H s2 → R ⟨acc ++ ts.toArray, k + piled ts⟩ s2) → wpAny (model X.prog X.w) A (forIn l (⟨acc, k⟩ : (Array Str × Nat)) tupBody) R X.xe s
  | [], [], acc, k, s, R, _, _, _, I, q => by
    rw [List.forIn_nil]
    exact wpAny_pure (by simpa [piled] using q s I)
  | [], _ :: _, _, _, _, _, e, _, _, _, _ => by cases e
  | _ :: _, [], _, _, _, _, e, _, _, _, _ => by cases e
  | u :: l, t :: ts, acc, k, s, R, e, hs, hz, I, q => by
    rw [piled_cons] at hz
    rw [List.forIn_cons]
    refine wpAny_bind (wpAny_bind (hs 0 u t rfl rfl pins (k + 1) A g s _ (by omega) hg hcl hr fr I fun s2 I2 => wpAny_pure ?_))
    refine shq_fold hg hcl hr fr l ts (acc.push t) (k + (t.length + 2)) s2 R (by simpa using e) (fun i u' t' h1 h2 => hs (i + 1) u' t' h1 h2) (by omega) I2 fun s3 I3 => ?_
    have := q s3 I3
    rw [piled_cons] at this
    have ee : k + (t.length + 2) + piled ts = k + (t.length + 2 + piled ts) := by omega
    rw [ee]
    simpa using this
/-- the rest of a tuple's display -/
theorem shq_rest {a : Addr} {xs : List V} {ts : List Str} {m n base : Nat} {A : Around} {g : List Code} {s : Shared} {id : String} {rest : List Value} {R : Result → Shared → Prop} (I : Inv X pins σ H s) (ha : SqT X.K H a xs) (tl : ts.length = xs.length)
    (hs : ∀ (i : Nat) (v : V) (t : Str), xs[i]? = some v → ts[i]? = some t → ∀ u, RelV v u → ShQ X σ C d H m n u t) (hg : A.guards = some g) (hca : Clear g a) (hcl : ClT (.builtin id ⟨.ref a :: rest, []⟩ :: g) C d H n)
    (gd : (Code.builtin id ⟨.ref a :: rest, []⟩).isGuard = true) (hr : Room m (A.under (.builtin id ⟨.ref a :: rest, []⟩))) (fr : (A.under (.builtin id ⟨.ref a :: rest, []⟩)).frames = X.A.frames) (hz : base + (tupleText ts).length ≤ sizeLine)
    (q : ∀ s2 u, Inv X pins σ H s2 → R (.ok (.ret (.str (tupleText ts) u))) s2) :
    wpOwn (model X.prog X.w) A (.builtin id ⟨.ref a :: rest, []⟩) (Builtin.tupleReprAt base ⟨[.ref a], []⟩) (fun fin s' => match fin with | .done f => R (.ok f) s' | .again c' => c'.quiet = true ∧ codeAny (model X.prog X.w) A c' R s') (fun e s' => X.xe e s') s := by
  obtain ⟨its, rv, ⟨o, ho, oc, k, od⟩, _⟩ := I.tuple ha
  have hp := piled_le_tupleText ts
  have ne : (g.any fun c => tupGuardF (.ref a) (c, default)) = false := by
    rw [List.any_eq_false]
    intro c hc
    rw [tupGuardF_of_clear hca c hc]
    decide
  rw [tuple_repr_tree, tupleReprUnderWay_eq]
  refine wpOwn_bind (wpOwn_stackTailAny hg (tupGuardF_off _) (tupGuardF_pos _) ?_)
  rw [ne]
  refine wpOwn_of_wpAny ?_
  show wpAny _ _ (tupleReprRest base (.ref a)) _ _ s
  unfold tupleReprRest Builtin.Tuple.tupleItemsOf
  refine wpAny_bind (wpAny_bind (wpAny_seqItems ho od (wpAny_pure ?_)))
  rw [← Array.forIn_toList]
  have il : ts.length = its.length := by rw [tl]; exact rv.length
  refine wpAny_bind (shq_fold (guards_under_guard gd hg) hcl hr fr _ ts _ _ s _ (by simpa using il) (fun i u t hu ht => ?_) (by omega) I fun s2 I2 => ?_)
  · have hu' : its[i]? = some u := by simpa using hu
    have ix : i < xs.length := by
      have := (List.getElem?_eq_some_iff.mp hu').1
      have := rv.length
      omega
    have hx := List.getElem?_eq_getElem ix
    obtain ⟨u2, hu2, r2⟩ := rv.get hx
    rw [hu'] at hu2
    obtain rfl := Option.some.inj hu2
    exact hs i _ t hx ht u r2
  · refine wpAny_bind (wpAny_mkStr (wpAny_pure ?_) (by
      have : (tupleText ts).length ≤ sizeLine := by omega
      simpa [tupleText, il] using this))
    have := q { s2 with toks := s2.toks + 1 } s2.toks (I2.tok _)
    simpa [tupleText, il] using this
/-- an address that nothing speaks of -/
structure PFree (X : Cx) (pins : List (Addr × Obj)) (H : Hp) (P : Addr) : Prop where
  hn : H P = none
  L : P ≠ X.env.locals
  fs : P ∉ X.fs
  new : X.s_0.heap.objs.size ≤ P
  cell : ∀ x c, X.env.cells.lookup x = some c → c ≠ P
  pin : ∀ p ∈ X.pn ++ pins, p.1 ≠ P
theorem PFree.of {s : Shared} (I : Inv X pins σ H s) : PFree X pins H s.heap.objs.size where
  hn := I.hok.fresh (Nat.le_refl _)
  L := Ne.symm (Nat.ne_of_lt I.lt)
  fs := I.nofs (Nat.le_refl _)
  new := I.sz
  cell := fun x c e => by
    obtain ⟨v, o, ho, _⟩ := I.cell x c e
    exact Nat.ne_of_lt (Heap.lt_size ho)
  pin := fun p hp => Nat.ne_of_lt (Heap.lt_size (I.pin p hp).1)
abbrev lobj (acc : Array Value) (c : Nat) : Obj := { cls := .type "list", dict := none, data := .seq acc c, slots := #[] }
theorem inv_pin {P : Addr} {o : Obj} {s : Shared} (pf : PFree X pins H P) (I : Inv X pins σ H s) (h : s.heap.get? P = some o) (nc : ∀ v, o.data ≠ .cell v) : Inv X ((P, o) :: pins) σ H s :=
  I.pins_of fun p hp => by
    rcases List.mem_cons.mp hp with rfl | hp
    · exact ⟨h, pf.hn, pf.L, pf.fs, nc⟩
    · exact I.pin p (List.mem_append_right _ hp)
theorem inv_unpin {p : Addr × Obj} {s : Shared} (I : Inv X (p :: pins) σ H s) : Inv X pins σ H s :=
  I.pins_of fun q hq => I.pin q (List.mem_append_right _ (List.mem_cons_of_mem _ hq))
theorem shq_loop {A : Around} {R : Result → Shared → Prop} {a P : Addr} {xs : List V} {ts : List Str} {m n base : Nat} {g : List Code} (hg : A.guards = some g) (ha : SqL X.K H a xs) (tl : ts.length = xs.length)
    (hcl : ∀ rest, ClT (.builtin "list.__repr__.loop" ⟨.ref a :: rest, []⟩ :: g) C d H n) (hr : Room (m + 1) A) (fr : A.frames = X.A.frames)
    (hs : ∀ (i : Nat) (v : V) (t : Str), xs[i]? = some v → ts[i]? = some t → ∀ u, RelV v u → ShQ X σ C d H m n u t)
    (pf : PFree X pins H P) (hsz : base + (listText ts).length ≤ sizeLine) (q : ∀ s2 u, Inv X pins σ H s2 → R (.ok (.ret (.str (listText ts) u))) s2) (xe : ∀ e s', X.xe e s' → R (.error e) s') :
    ∀ (k i : Nat) (s : Shared) (acc : Array Value) (c : Nat) (done : List (Str × Tok)), xs.length - i = k → i ≤ xs.length → Inv X ((P, lobj acc c) :: pins) σ H s → acc.toList = strValues done → done.map (·.1) = ts.take i →
    codeAny (model X.prog X.w) A (.builtin "list.__repr__.loop" ⟨[.ref a, rawInt i, .ref P, rawInt ((base + piled (ts.take i) : Nat) : Int)], []⟩) R s := by
  have hX : (listText ts).length = (textFrom 0 "[" ts).length + 1 := by
    show (textFrom 0 "[" ts ++ "]").length = _
    rw [strLen_append]; rfl
  have hL := textFrom_len ts 0 "["
  have hsz2 : ∀ t ∈ ts, t.length ≤ sizeLine := fun t ht => by
    have h2 := hL.2.1 t ht
    omega
  have hsz1 : ts.length ≤ sizeLine := by
    have h1 := hL.1
    rw [if_neg (Nat.lt_irrefl 0)] at h1
    omega
  have hsz3 : (listText ts).length ≤ sizeLine := by omega
  have hp3 := piled_le_listText ts
  intro k
  induction k with
  | zero =>
    intro i s acc c done hk hi I hacc hdone
    have hin : i = xs.length := by omega
    obtain ⟨its, rv, ⟨o, no, ho, hc, _, hd⟩, _⟩ := I.list ha
    have hP : s.heap.get? P = some (lobj acc c) := (I.pin (P, lobj acc c) (List.mem_append_right _ (List.mem_cons_self ..))).1
    refine codeAny_builtin PySem.F.entry_list_repr_loop ?_
    show wpAny _ _ («list.__repr__.loop» ⟨[.ref a, .int i 0, .ref P, .int ((base + piled (ts.take i) : Nat) : Int) 0], []⟩) _ _ s
    rw [repr_loop_tree]
    refine wpAny_bind (wpAny_listItems ho hd ?_)
    have hnone : its.toArray[(i : Int).toNat]? = none := by
      have := rv.length
      simp [hin, this]
    simp only [hnone]
    unfold reprEnd
    refine wpAny_bind (wpAny_listItems hP rfl ?_)
    rw [hacc, repr_fold]
    refine wpAny_bind (wpAny_pure ?_)
    have hall : done.map (·.1) = ts := by rw [hdone, hin, ← tl, List.take_length]
    rw [hall]
    refine wpAny_bind (wpAny_mkStr (wpAny_pure ?_) hsz3)
    exact q _ _ ((inv_unpin I).tok _)
  | succ k ih =>
    intro i s acc c done hk hi I hacc hdone
    have hlt : i < xs.length := by omega
    have hv : xs[i]? = some xs[i] := List.getElem?_eq_getElem hlt
    have ht : ts[i]? = some (ts[i]'(by omega)) := List.getElem?_eq_getElem (by omega)
    generalize ts[i]'(by omega) = t at ht
    obtain ⟨its, rv, ⟨o, no, ho, hc, _, hd⟩, _⟩ := I.list ha
    obtain ⟨u, hu, ru⟩ := rv.get hv
    have hp1 := piled_take_succ ht
    have hp2 := piled_take_le ts (i + 1)
    refine codeAny_builtin PySem.F.entry_list_repr_loop ?_
    show wpAny _ _ («list.__repr__.loop» ⟨[.ref a, .int i 0, .ref P, .int ((base + piled (ts.take i) : Nat) : Int) 0], []⟩) _ _ s
    rw [repr_loop_tree]
    refine wpAny_bind (wpAny_listItems ho hd ?_)
    have hsome : its.toArray[(i : Int).toNat]? = some u := by simpa using hu
    simp only [hsome]
    rw [Int.toNat_natCast]
    have xe' : (fun e s' => R (.error e) s') = fun e s' => R (.error e) s' := rfl
    refine wpAny_bind (wpAny_holding (wpAny_mono (hs i _ t hv ht u ru _ (base + piled (ts.take i) + 1) _ _ s (fun t' s2 => t' = t ∧ Inv X ((P, lobj acc c) :: pins) σ H s2) (by omega) (guards_under_guard (isGuard_list_loop _) hg) (hcl _) (room_lloop hr) ((@lloop_depth A _).2.2.trans fr) I fun s2 I2 => ⟨rfl, I2⟩) ?_ xe))
    rintro t' s2 ⟨rfl, I2⟩
    have hP : s2.heap.get? P = some (lobj acc c) := (I2.pin (P, lobj acc c) (List.mem_append_right _ (List.mem_cons_self ..))).1
    refine wpAny_bind (wpAny_mkStr ?_ (hsz2 _ (List.mem_of_getElem? ht)))
    refine wpAny_bind ?_
    show wpAny _ _ (updateSeq P _) _ _ _
    have hasz : acc.size ≤ sizeLine := by
      have e1 : acc.toList.length = acc.size := by simp
      have e2 : (strValues done).length = done.length := by simp [strValues]
      have e3 : done.length = (ts.take i).length := by rw [← hdone, List.length_map]
      have e4 : (ts.take i).length ≤ i := by rw [List.length_take]; omega
      rw [hacc] at e1; omega
    refine wpAny_updateSeq hP rfl (wpAny_pure ⟨PySem.F.quiet_list_repr_loop _, ?_⟩) hasz
    have e1 : ((i : Int) + 1) = ((i + 1 : Nat) : Int) := by omega
    have e2 : base + piled (ts.take i) + (t'.length + 2) = base + piled (ts.take (i + 1)) := by omega
    rw [e1, e2]
    have I3 : Inv X pins σ H { s2 with heap := s2.heap.update P (Obj.mapSeq (·.push (.str t' s2.toks))), toks := s2.toks + 1 } :=
      (inv_unpin I2).turned (it := P) (fun b o hb e => (Heap.get?_update_other _ _ (Ne.symm hb)).trans e) pf.hn pf.L (.inr pf.new) pf.cell pf.pin
    refine ih (i + 1) _ (acc.push (.str t' s2.toks)) _ (done ++ [(t', s2.toks)]) (by omega) hlt (inv_pin pf I3 (Heap.get?_update_self _ hP rfl) fun v z => by cases z) (by simp [hacc, strValues]) (by simp [List.take_add_one, ht, hdone])
end
end My
namespace My
open PySem PySem.Spec PyProof.Rows L2 PySem.Builtin TL
section
variable {X : Cx} {σ : L2.St} {H : Hp} {C d f : Addr} {fd : FuncData} {ps : List Str} {n0 : Nat} {sp : Sp} {nt : Rat → Str} {k : Nat}
theorem shs_get {nt : Rat → Str} {xs : List Tg} {i : Nat} {t : Str} (h : (shTs nt xs)[i]? = some t) : ∃ x, xs[i]? = some x ∧ t = shT nt x := by
  induction xs generalizing i with
  | nil => simp [shTs] at h
  | cons x xs ih =>
    cases i with
    | zero =>
      have h' : some (shT nt x) = some t := h
      exact ⟨x, rfl, (Option.some.inj h').symm⟩
    | succ i => exact ih (i := i) h
theorem dpTs_get {xs : List Tg} {x : Tg} (h : x ∈ xs) : dpT x ≤ dpTs xs := dpTs_iff.mp (Nat.le_refl _) x h
mutual
theorem shq_T (F : FnOk X.prog X.w X.K X.mg X.base CX0 n0 f fd ps sp) (hs : PySem.W.findIn X.K (.ref C) "__repr__" = some (some (.ref f))) (hf : PySem.W.isFn X.K (.ref f) = true) (hb : Binds X.K fd ps [])
    (own : ∀ (p : Addr) (x : Rat) (R : VK), NumAt C H p x → Bd k x → R (.str (nt x)) H → sp [.ref p] H R E0) (hk : k ≤ 1900) : ∀ (x : Tg) (v : V) (u : Value), TgAt C d H v x → RelV v u → okT k x → ShQ X σ C d H (n0 + dpT x) (dpT x) u (shT nt x)
  | .non, _, _, h, r, _ => by
    cases h; cases r
    intro pins base A g s R hz hg hcl hr fr I q
    exact ReprIs.none base hz A X.xe s _ fun tk => q _ (I.tok _)
  | .bl b, _, _, h, r, _ => by
    cases h; cases r
    intro pins base A g s R hz hg hcl hr fr I q
    exact ReprIs.bool b base hz A X.xe s _ fun tk => q _ (I.tok _)
  | .int i, _, _, h, r, hx => by
    cases h
    obtain ⟨t, rfl⟩ := r
    intro pins base A g s R hz hg hcl hr fr I q
    unfold okT at hx
    have l : i.natAbs.log2 < 1920 := by
      by_cases z : i.natAbs = 0
      · rw [z]; decide
      · exact Nat.lt_of_lt_of_le (Nat.log2_lt z |>.mpr hx) (by omega)
    exact ReprIs.int t l base hz A X.xe s _ fun tk => q _ (I.tok _)
  | .str z, _, _, h, r, _ => by
    cases h
    obtain ⟨t, rfl⟩ := r
    intro pins base A g s R hz hg hcl hr fr I q
    exact ReprIs.str z t (by have : (reprText z).length = (shT nt (.str z)).length := rfl; omega) base hz A X.xe s _ fun tk => q _ (I.tok _)
  | .num x, _, _, h, r, hx => by
    cases h with
    | num hn => ?_
    cases r
    intro pins base A g s R hz hg hcl hr fr I q
    obtain ⟨dx, ha⟩ := id hn
    obtain ⟨_, J1, _⟩ := ins_get I.hok ha
    obtain ⟨_, K1, _⟩ := J1.look
    unfold okT at hx
    have hr' : Room n0 A := hr.mono (by omega)
    refine repr_within (by omega) hr'.units0 I.kIn K1 hs hf (thn (run_one F hb hr' fr I (own _ _ (fun v H' => v = .str (nt x) ∧ H' = H) hn hx ⟨rfl, rfl⟩)) ?_)
    rintro v s2 ⟨x', H2, I2, rx, rfl, rfl⟩
    obtain ⟨tk, rfl⟩ := rx
    exact ⟨nt x, tk, rfl, q s2 I2⟩
  | .tup ts, _, _, h, r, hx => by
    cases h with
    | tup hp ha => ?_
    cases r
    rename_i a vs
    intro pins base A g s R hz hg hcl hr fr I q
    have all := shq_Ts F hs hf hb own hk ts _ ha (by unfold okT at hx; exact hx)
    obtain ⟨its, rv, ⟨o, ho, oc, kk, od⟩, _⟩ := I.tuple (SqT.of hp)
    have ty : s.TypeIs (.ref a) "tuple" := ⟨o, ho, oc⟩
    have me : TgAt C d H (.ref a) (.tup ts) := .tup hp ha
    refine wpAny_pyReprUnder_ref (by omega) (wpAny_pyReprObjUnder_twin (twin := "tuple.__repr__.under") ty PySem.F.slot_tuple_repr rfl hr.units0 ?_)
    refine call_twin_own (PySem.F.quiet_tuple_repr_under _) PySem.F.entry_tuple_repr_under PySem.F.check_tuple_repr_under ty PySem.F.slot_tuple_repr (PySem.F.args_tuple_repr_1 _) ?_
    obtain ⟨_, _, ff⟩ := @under_depth A [.ref a, rawInt base]
    have dp : dpT (.tup ts) = dpTs ts + 1 := rfl
    exact shq_rest (m := n0 + dpTs ts) (n := dpTs ts) (ts := shTs nt ts) (R := callEnd _ X.xe) I (SqT.of hp) (by rw [shTs_len, ha.len]) all hg (hcl a _ me (Nat.le_refl _)) (hcl.down me (Nat.le_refl _) (by omega)) (isGuard_tuple_repr_under _) (room_under (by rw [dp] at hr; exact hr)) (ff.trans fr) hz fun s2 u I2 => ⟨⟨_, _, rfl⟩, _, _, rfl, q s2 I2⟩
  | .lst ts, _, _, h, r, hx => by
    cases h with
    | lst nd hp ha => ?_
    cases r
    rename_i a vs
    intro pins base A g s R hz hg hcl hr fr I q
    have all := shq_Ts F hs hf hb own hk ts _ ha (by unfold okT at hx; exact hx)
    obtain ⟨its, rv, ⟨o, n, ho, oc, _, od⟩, _⟩ := I.list (SqL.of hp)
    have me : TgAt C d H (.ref a) (.lst ts) := .lst nd hp ha
    have dp : dpT (.lst ts) = dpTs ts + 1 := rfl
    cases its with
    | nil =>
      have e0 : vs = [] := List.length_eq_zero_iff.mp rv.length
      subst e0
      cases ha
      exact (ReprK.listEmpty (prog := X.prog) (w := X.w) (as := []) (d := 0) ho oc od) base hz A g X.xe s _ hg (fun b hb => nomatch hb) (by have := hr.units0; omega) (fun _ _ e => e) fun h' tk hk' => q _ (I.kept hk')
    | cons y l =>
      have hca := hcl a _ me (Nat.le_refl _)
      have pf := PFree.of I
      refine wpAny_pyReprUnder_ref (by omega) (wpAny_pyReprObjUnder_twin (twin := "list.__repr__.under") ⟨o, ho, oc⟩ PySem.F.slot_list_repr.toG rfl hr.units0 ?_)
      refine call_twin_plain PySem.F.plain_list_repr_under PySem.F.entry_list_repr_under PySem.F.check_list_repr_under ⟨o, ho, oc⟩ PySem.F.slot_list_repr.toG (PySem.F.args_list_repr_1 _) ?_
      refine wpAny_list_repr_head (A := A.in1) hg (fun v rest kw hm => listSameRef_of_ne (hca _ _ _ _ hm)) ho od ?_
      refine wpAny_bind (m := newList []) (wpAny_newObj_type ?_)
      refine wpAny_pure ⟨PySem.F.quiet_list_repr_loop _, ?_⟩
      have I1 : Inv X pins σ H { s with heap := s.heap.push (lobj #[] 0), toks := s.toks } := I.kept (fun b o e => Heap.get?_push_of_some _ e)
      have I2 := inv_pin (o := lobj #[] 0) pf I1 (Heap.get?_push_size _ rfl) fun v z => by cases z
      have go := shq_loop (X := X) (σ := σ) (C := C) (d := d) (A := A) (R := callEnd (fun v s' => (∃ x u, v = .str x u) ∧ ∃ x u, v = .str x u ∧ R x s') X.xe) (m := n0 + dpTs ts) (n := dpTs ts) (base := base) hg (SqL.of hp) (by rw [shTs_len, ha.len]) (fun rest => hcl.down me (Nat.le_refl _) (by omega)) (by rw [dp] at hr; exact hr) fr all pf hz (fun s2 u I2 => ⟨⟨_, _, rfl⟩, _, _, rfl, q s2 I2⟩) (fun e s' he => he) vs.length 0 _ #[] 0 [] (by omega) (Nat.zero_le _) I2 (by simp [strValues]) (by simp)
      exact go
  | .dct, _, _, h, r, _ => by
    cases h with
    | dct hp => ?_
    cases r
    rename_i a
    intro pins base A g s R hz hg hcl hr fr I q
    obtain ⟨o, n, ho, hc, hd, hsys⟩ := dict_none I hp
    have hca := hcl a _ (.dct hp) (Nat.le_refl _)
    exact wpAny_pyReprUnder_ref (by omega) (wpAny_pyReprObjUnder_dictK (as := []) (d := 0) ho hc hd hsys (fun z => nomatch z) .nil hg (fun b hb => by rcases List.mem_cons.mp hb with rfl | hb; exact hca; exact nomatch hb) (by have := hr.un; omega) (fun _ _ e => e) (fun h' u tk hk' => ⟨_, _, rfl, q _ (I.kept hk')⟩) hz)
theorem shq_Ts (F : FnOk X.prog X.w X.K X.mg X.base CX0 n0 f fd ps sp) (hs : PySem.W.findIn X.K (.ref C) "__repr__" = some (some (.ref f))) (hf : PySem.W.isFn X.K (.ref f) = true) (hb : Binds X.K fd ps [])
    (own : ∀ (p : Addr) (x : Rat) (R : VK), NumAt C H p x → Bd k x → R (.str (nt x)) H → sp [.ref p] H R E0) (hk : k ≤ 1900) : ∀ (xs : List Tg) (vs : List V), TgAll C d H vs xs → okTs k xs → ∀ (i : Nat) (v : V) (t : Str), vs[i]? = some v → (shTs nt xs)[i]? = some t → ∀ u, RelV v u → ShQ X σ C d H (n0 + dpTs xs) (dpTs xs) u t
  | [], _, h, _, i, v, t, h1, _, _, _ => by
    cases h
    simp at h1
  | x :: xs, _, h, hx, i, v, t, h1, h2, u, ru => by
    cases h with
    | cons a b => ?_
    have hx' : okT k x ∧ okTs k xs := hx
    have dp : dpTs (x :: xs) = max (dpT x) (dpTs xs) := rfl
    cases i with
    | zero =>
      have h1' := Option.some.inj (show some _ = some v from h1)
      have h2' := Option.some.inj (show some (shT nt x) = some t from h2)
      subst h1' h2'
      exact (shq_T F hs hf hb own hk x _ u a ru hx'.1).mono (by rw [dp]; have := Nat.le_max_left (dpT x) (dpTs xs); omega) (by rw [dp]; exact Nat.le_max_left _ _)
    | succ i =>
      exact (shq_Ts F hs hf hb own hk xs _ b hx'.2 i v t h1 h2 u ru).mono (by rw [dp]; have := Nat.le_max_right (dpT x) (dpTs xs); omega) (by rw [dp]; exact Nat.le_max_right _ _)
end
/-- repr of a tuple of things of any kind -/
def rReprT66 (C : Addr) (sp : Sp) (nt : Rat → Str) (D : Nat) : List V → Hp → VK → Prop := fun xs H Q => ∃ (d p : Addr) (ts : List Tg) (k : Nat), xs = [.ref p] ∧ TgAt C d H (.ref p) (.tup ts) ∧ okTs k ts ∧ k ≤ 1900 ∧ dpTs ts ≤ D ∧
  (∀ (p : Addr) (x : Rat) (R : VK), NumAt C H p x → Bd k x → R (.str (nt x)) H → sp [.ref p] H R E0) ∧ (shT nt (.tup ts)).length ≤ sizeLine ∧ Q (.str (shT nt (.tup ts))) H
theorem call_reprT66 {D : Nat} (hA : X.A.guards = some []) (F : FnOk X.prog X.w X.K X.mg X.base CX0 n0 f fd ps sp) (hs : PySem.W.findIn X.K (.ref C) "__repr__" = some (some (.ref f))) (hf : PySem.W.isFn X.K (.ref f) = true) (hb : Binds X.K fd ps []) (hr : Room (n0 + D + 2) X.A) :
    CallR X (.builtin "repr") (rReprT66 C sp nt D) := by
  rintro pins s σ H xs us Q I r ⟨d, p, ts, k, rfl, ht, ok, hk, hD, own, hz, q⟩
  obtain ⟨u, rfl, rx⟩ := vals1 r
  cases rx
  cases ht with
  | tup hp ha => ?_
  rename_i vs
  have rA : Room (n0 + D + 1) X.A.in1 := hr.in1
  obtain ⟨_, _, ff⟩ := @tup_depth X.A.in1 [.ref p]
  obtain ⟨its, rv, ⟨o, ho, oc, kk, od⟩, _⟩ := I.tuple (SqT.of hp)
  have ty : s.TypeIs (.ref p) "tuple" := ⟨o, ho, oc⟩
  have me : TgAt C d H (.ref p) (.tup ts) := .tup hp ha
  have all := shq_Ts F hs hf hb own hk ts _ ha ok (σ := σ)
  have e : shT nt (.tup ts) = tupleText (shTs nt ts) := rfl
  refine call_repr_slot (by have := rA.un; show X.A.in1.units < _; omega) ty PySem.F.slot_tuple_repr ?_
  refine wpAny_call (codeAny_call_builtin_own (Code.quiet_builtin _ (by decide +kernel)) PySem.F.entry_tuple_repr (PySem.F.slot_tuple_repr.check _ _ _ _ _ _ _ _ ty (PySem.F.args_tuple_repr_1 _) ?_))
  have c0 : ClT [] C d H (dpTs ts + 1) := fun b _ _ _ => Clear.nil b
  exact shq_rest (m := n0 + D) (n := dpTs ts) (base := 0) (ts := shTs nt ts) (R := callEnd _ X.xe) I (SqT.of hp) (by rw [shTs_len, ha.len]) (fun i v t h1 h2 u ru => (all i v t h1 h2 u ru).mono (by omega) (Nat.le_refl _)) hA (Clear.nil p) (c0.down me (Nat.le_refl _) (Nat.lt_succ_self _)) (isGuard_tuple_repr _) (room_tup rA) ff (by rw [← e]; omega) fun s2 u I2 => ⟨_, _, rfl, .str _, H, I2, ⟨_, rfl⟩, q⟩
end
end My

namespace My
open PySem L2
/-! ### what can be shown -/
mutual
def shB : PyData → Bool
  | .none => true
  | .bool _ => true
  | .int i => decide (i.natAbs < 2 ^ 500)
  | .str z => decide (z.cps.size ≤ 500) && z.cps.toList.all fun c => decide (c < 16 ^ 8)
  | .tuple ds => shAll ds
  | .list ds => shAll ds
  | _ => false
def shAll : List PyData → Bool
  | [] => true
  | d :: ds => shB d && shAll ds
end
mutual
def szD : PyData → Nat
  | .tuple ds => szAll ds
  | .list ds => szAll ds
  | _ => 0
def szAll : List PyData → Nat
  | [] => 0
  | d :: ds => szD d + 1 + szAll ds
end
theorem log500 {z : Int} (h : z.natAbs < 2 ^ 500) : z.natAbs.log2 < 500 := PySem.Flt.log2_lt_of (by decide) h
theorem int_text_501 {a : Int} (h : a.natAbs.log2 < 500) : (PyData.shown (.int a)).length ≤ 501 := by
  have e := int_text_length_le (k := 500) (by decide) h
  show (Str.ofString (toString a)).length ≤ 501
  rw [PySem.ofString_length]
  exact e
mutual
theorem sh_ok : ∀ d : PyData, shB d = true → d.showable = true ∧ d.hasDict = false ∧ d.leavesShort 501 = true ∧ d.weight ≤ 502 + 503 * szD d
  | .none, _ => ⟨rfl, by simp [PyData.hasDict], rfl, by simp [PyData.weight]⟩
  | .bool b, _ => ⟨rfl, by simp [PyData.hasDict], rfl, by simp [PyData.weight]⟩
  | .int i, h => by
    have l := log500 (z := i) (of_decide_eq_true (show decide (i.natAbs < 2 ^ 500) = true from by simpa [shB] using h))
    refine ⟨?_, by simp [PyData.hasDict], ?_, ?_⟩
    · simp only [PyData.showable, decide_eq_true_eq]; omega
    · simp only [PyData.leavesShort, decide_eq_true_eq]
      exact int_text_501 l
    · simp only [PyData.weight]
      split <;> omega
  | .str z, h => by
    have h' : decide (z.cps.size ≤ 500) = true ∧ (z.cps.toList.all fun c => decide (c < 16 ^ 8)) = true := by
      have : (decide (z.cps.size ≤ 500) && z.cps.toList.all fun c => decide (c < 16 ^ 8)) = true := by
        unfold shB at h; exact h
      rw [Bool.and_eq_true] at this
      exact this
    refine ⟨rfl, by simp [PyData.hasDict], h'.2, ?_⟩
    have := of_decide_eq_true h'.1
    show z.cps.size ≤ _
    omega
  | .tuple ds, h => by
    obtain ⟨a, b, c, d⟩ := shs_ok ds (by unfold shB at h; exact h)
    refine ⟨a, ?_, c, ?_⟩
    · show PyData.hasDictAll ds = false
      exact b
    · show PyData.weightAll ds ≤ 502 + 503 * szAll ds
      omega
  | .list ds, h => by
    obtain ⟨a, b, c, d⟩ := shs_ok ds (by unfold shB at h; exact h)
    refine ⟨a, ?_, c, ?_⟩
    · show PyData.hasDictAll ds = false
      exact b
    · show PyData.weightAll ds ≤ 502 + 503 * szAll ds
      omega
  | .dict _, h => by simp [shB] at h
theorem shs_ok : ∀ ds : List PyData, shAll ds = true → PyData.showableAll ds = true ∧ PyData.hasDictAll ds = false ∧ PyData.leavesShortAll 501 ds = true ∧ PyData.weightAll ds ≤ 503 * szAll ds
  | [], _ => ⟨rfl, rfl, rfl, Nat.zero_le _⟩
  | d :: ds, h => by
    have h' : shB d = true ∧ shAll ds = true := by
      unfold shAll at h
      rw [Bool.and_eq_true] at h
      exact h
    obtain ⟨a, b, c, e⟩ := sh_ok d h'.1
    obtain ⟨a', b', c', e'⟩ := shs_ok ds h'.2
    refine ⟨?_, ?_, ?_, ?_⟩
    · show (PyData.showable d && PyData.showableAll ds) = true
      rw [a, a']; rfl
    · show (PyData.hasDict d || PyData.hasDictAll ds) = false
      rw [b, b']; rfl
    · show (PyData.leavesShort 501 d && PyData.leavesShortAll 501 ds) = true
      rw [c, c']; rfl
    · show PyData.weight d + 1 + PyData.weightAll ds ≤ 503 * (szD d + 1 + szAll ds)
      omega
end
theorem sh_ints : ∀ {cs : List Int}, (∀ c ∈ cs, c.natAbs < 2 ^ 500) → shAll (cs.map PyData.int) = true ∧ szAll (cs.map PyData.int) = cs.length
  | [], _ => ⟨rfl, rfl⟩
  | c :: cs, h => by
    obtain ⟨a, b⟩ := sh_ints (cs := cs) fun d hd => h d (List.mem_cons_of_mem _ hd)
    constructor
    · show (shB (.int c) && shAll (cs.map PyData.int)) = true
      rw [a, Bool.and_true]
      unfold shB
      exact decide_eq_true (h c (List.mem_cons_self ..))
    · show szD (.int c) + 1 + szAll (cs.map PyData.int) = (c :: cs).length
      rw [b, List.length_cons]
      show 0 + 1 + _ = _
      omega
/-- a tuple of whole numbers, shown -/
theorem rd_reprI {K : PySem.W.Frag} {H : Hp} {p : Addr} {cs : List Int} {Q : VK} (h : H p = some (.tup (cs.map V.int))) (b : ∀ c ∈ cs, c.natAbs < 2 ^ 500) (n : cs.length ≤ 60) (q : Q (.str (PyData.tuple (cs.map PyData.int)).shown) H) : rRepr K [.ref p] H Q := by
  obtain ⟨sa, sz⟩ := sh_ints b
  have f : shB (.tuple (cs.map PyData.int)) = true := by unfold shB; exact sa
  obtain ⟨g1, g2, g3, g4⟩ := sh_ok _ f
  have s0 : szD (.tuple (cs.map PyData.int)) = cs.length := sz
  have dp : (PyData.tuple (cs.map PyData.int)).depth ≤ 60 := by rw [PyData.depth, (lay_ints cs).2]; decide
  refine ⟨p, _, rfl, .tup (SqT.of h) (dp_ints cs), g1, g2, dp, ?_, q⟩
  have := PyData.shown_le 501 (by decide) _ g3
  have e : sizeLine = 16777216 := rfl
  omega
end My

namespace My
open PySem L2 TL
theorem rd_reprB {K : PySem.W.Frag} {H : Hp} {p : Addr} {b : Bool} {Q : VK} (h : H p = some (.lst [.bl b, .bl b])) (q : Q (.str (PyData.list [.bool b, .bool b]).shown) H) : rRepr K [.ref p] H Q := by
  have f : shB (.list [.bool b, .bool b]) = true := rfl
  obtain ⟨g1, g2, g3, g4⟩ := sh_ok _ f
  have s0 : szD (.list [.bool b, .bool b]) = 2 := rfl
  have dp : (PyData.list [.bool b, .bool b]).depth ≤ 60 := by simp [PyData.depth, PyData.depthAll]
  refine ⟨p, _, rfl, .lst (SqL.of h) (.cons (.bl b) (.cons (.bl b) .nil)), g1, g2, dp, ?_, q⟩
  have := PyData.shown_le 501 (by decide) _ g3
  have e : sizeLine = 16777216 := rfl
  omega
theorem cnt_bd66 {n : Nat} {us : List Rat} (h : ∀ u ∈ us, Bd n u) : ∀ c ∈ cntQ us, c.natAbs ≤ 2 ^ n := by
  intro c hc
  obtain ⟨i, hi⟩ := List.getElem?_of_mem hc
  have il : i < us.length := by rw [← cnt_len us]; exact (List.getElem?_eq_some_iff.mp hi).1
  have b := floor_bd (h us[i] (List.getElem_mem il))
  have f := fl_at (List.getElem?_eq_getElem il)
  rw [cnt_at il, f] at hi
  have hi' := Option.some.inj hi
  split at hi' <;> omega
theorem F_bd66 {n : Nat} (n1 : 1 ≤ n) {us : List Rat} (h : ∀ u ∈ us, Bd n u) (i : Nat) : Bd n (FQ us i) := by
  by_cases il : i < us.length
  · rw [FQ_at (List.getElem?_eq_getElem il)]
    exact part_bd (h _ (List.getElem_mem il))
  · have e : FQ us i = ((0 : Int) : Rat) := by
      unfold FQ
      rw [List.getD_eq_getElem?_getD, List.getElem?_eq_none (by rw [List.length_map]; omega)]
      rfl
    rw [e]
    exact Bd.int (by have := Nat.two_pow_pos n; simpa using this) n1
theorem pap_bd66 {n : Nat} (n1 : 1 ≤ n) {us : List Rat} (h : ∀ u ∈ us, Bd n u) {l : Option Nat} {w : Rat} (e : w = match l with | none => 1 | some i => FQ us i) : Bd n w := by
  cases l with
  | none =>
    subst e
    refine (Bd.int (n := 1) (i := 1) (by decide) (by decide)).mono n1
  | some i => subst e; exact F_bd66 n1 h i
theorem NumsV.out {C : Addr} {H H' : Hp} {d : Addr} {vs : List V} {xs : List Rat} (o : Out d H H') (w : WellAt H d) (h : NumsV C H vs xs) : NumsV C H' vs xs := by
  induction h with
  | nil => exact .nil
  | cons a _ ih => exact .cons (a.out o w) ih
/-! how long what is shown is -/
theorem rtext_250 {k : Nat} {y : Rat} (b : Bd k y) (h : k ≤ 380) : (RText y).length ≤ 250 := by
  have kk : (2 : Nat) ^ k ≤ 10 ^ 115 := Nat.le_trans (Nat.pow_le_pow_right (by decide) h) (by decide +kernel)
  have l : ∀ i : Int, i.natAbs < 2 ^ k → (TI i).length ≤ 116 := fun i hi => by
    have := signL_len (i := i) (k := 115) (by decide) (Nat.lt_of_lt_of_le hi kk)
    rw [TI_len]
    split at this <;> omega
  have l1 := l y.num b.1
  have l2 := l (y.den : Int) (by rw [Int.natAbs_natCast]; exact b.2)
  unfold RText
  have e1 : ("Number(" : Str).length = 7 := rfl
  have e2 : (", " : Str).length = 2 := rfl
  have e3 : (")" : Str).length = 1 := rfl
  have e0 : Str.empty.length = 0 := rfl
  simp only [Str.length_append, e0, e1, e2, e3]
  omega
mutual
theorem sh_len66 : ∀ x : Tg, okT 380 x → (shT RText x).length + 5 ≤ 2600 * (szT x + 1)
  | .non, _ => by
    show ("None" : Str).length + 5 ≤ 2600 * (0 + 1)
    have : ("None" : Str).length = 4 := rfl
    omega
  | .bl b, _ => by
    show (if b = true then Str.ofString "True" else Str.ofString "False").length + 5 ≤ 2600 * (0 + 1)
    cases b
    · have : (Str.ofString "False").length = 5 := rfl
      show (Str.ofString "False").length + 5 ≤ _
      omega
    · have : (Str.ofString "True").length = 4 := rfl
      show (Str.ofString "True").length + 5 ≤ _
      omega
  | .int i, h => by
    unfold okT at h
    have l : i.natAbs.log2 < 380 := PySem.Flt.log2_lt_of (by decide) h
    have e := int_text_length_le (k := 380) (by decide) l
    show (Str.ofString (toString i)).length + 5 ≤ 2600 * (0 + 1)
    rw [PySem.ofString_length]
    omega
  | .str z, h => by
    unfold okT at h
    have e := StrLaws.reprText_len z h.1
    have := h.2
    show (reprText z).length + 5 ≤ 2600 * (0 + 1)
    omega
  | .num x, h => by
    unfold okT at h
    have := rtext_250 h (by decide)
    show (RText x).length + 5 ≤ 2600 * (0 + 1)
    omega
  | .tup ts, h => by
    have a := sh_lens66 ts (by unfold okT at h; exact h)
    have b := tupleText_len_le (shTs RText ts)
    show (tupleText (shTs RText ts)).length + 5 ≤ 2600 * (szTs ts + 1)
    have c : ((shTs RText ts).map (·.length)).sum + 2 * (shTs RText ts).length = piled (shTs RText ts) := by
      unfold piled
      generalize shTs RText ts = l
      induction l with
      | nil => rfl
      | cons t l ih => simp only [List.map_cons, List.sum_cons, List.length_cons]; omega
    omega
  | .lst ts, h => by
    have a := sh_lens66 ts (by unfold okT at h; exact h)
    have b := listText_len_le (shTs RText ts)
    show (listText (shTs RText ts)).length + 5 ≤ 2600 * (szTs ts + 1)
    have c : ((shTs RText ts).map (·.length)).sum + 2 * (shTs RText ts).length = piled (shTs RText ts) := by
      unfold piled
      generalize shTs RText ts = l
      induction l with
      | nil => rfl
      | cons t l ih => simp only [List.map_cons, List.sum_cons, List.length_cons]; omega
    omega
  | .dct, _ => by
    show (dictText []).length + 5 ≤ 2600 * (0 + 1)
    have : (dictText []).length = 2 := rfl
    omega
theorem sh_lens66 : ∀ xs : List Tg, okTs 380 xs → piled (shTs RText xs) ≤ 2600 * szTs xs
  | [], _ => Nat.zero_le _
  | x :: xs, h => by
    have h' : okT 380 x ∧ okTs 380 xs := h
    have a := sh_len66 x h'.1
    have b := sh_lens66 xs h'.2
    show piled (shT RText x :: shTs RText xs) ≤ 2600 * (szT x + 1 + szTs xs)
    rw [piled_cons]
    omega
end
theorem szTs_le {n : Nat} : ∀ {xs : List Tg}, (∀ x ∈ xs, szT x ≤ n) → szTs xs ≤ xs.length * (n + 1)
  | [], _ => Nat.zero_le _
  | x :: xs, h => by
    have a := h x (List.mem_cons_self ..)
    have b := szTs_le (xs := xs) fun y hy => h y (List.mem_cons_of_mem _ hy)
    show szT x + 1 + szTs xs ≤ (xs.length + 1) * (n + 1)
    rw [Nat.add_mul]
    omega
section
variable {C d : Addr} {H : Hp}
theorem ints_all : ∀ cs : List Int, TgAll C d H (cs.map V.int) (cs.map Tg.int)
  | [] => .nil
  | c :: cs => .cons (.int c) (ints_all cs)
theorem nums_all {vs : List V} {xs : List Rat} (h : NumsV C H vs xs) : TgAll C d H vs (xs.map Tg.num) := by
  induction h with
  | nil => exact .nil
  | cons a _ ih => exact .cons (.num a) ih
theorem fi_ints {k m : Nat} : ∀ {cs : List Int}, (∀ c ∈ cs, c.natAbs < 2 ^ k) → Fs k cs.length m (cs.map Tg.int)
  | [], _ => Fs.nil
  | c :: cs, h => by
    have a := (Fs.one (n := 0) ((one_ (h c (List.mem_cons_self ..))).mono (Nat.le_refl _) (Nat.le_refl _) (Nat.zero_le m))).app (fi_ints (m := m) fun x hx => h x (List.mem_cons_of_mem _ hx))
    rw [Nat.zero_add, Nat.add_comm] at a
    exact a
/-- things laid one behind the other -/
structure Rg (C d : Addr) (H0 H : Hp) (vs : List V) (xs : List Tg) : Prop where
  wl : WellAt H d
  all : TgAll C d H vs xs
  same : Same H0 H
variable {H0 : Hp} {vs : List V} {xs : List Tg}
theorem Rg.on {H' : Hp} (r : Rg C d H0 H vs xs) (s : Same H H') : Rg C d H0 H' vs xs := ⟨r.wl.same s, r.all.same s, r.same.trans s⟩
theorem Rg.put {v : V} {x : Tg} (r : Rg C d H0 H vs xs) (h : TgAt C d H v x) : Rg C d H0 H (vs ++ [v]) (xs ++ [x]) := ⟨r.wl, r.all.app (.cons h .nil), r.same⟩
theorem Rg.tup {p : Addr} {ws : List V} {ts : List Tg} (r : Rg C d H0 H vs xs) (hp : H p = none) (a : TgAll C d H ws ts) : Rg C d H0 (upd H p (.tup ws)) (vs ++ [.ref p]) (xs ++ [.tup ts]) := (r.on (Same.new hp)).put (TgAt.newT hp a)
theorem Rg.lst {p : Addr} {ws : List V} {ts : List Tg} (r : Rg C d H0 H vs xs) (hp : H p = none) (a : TgAll C d H ws ts) : Rg C d H0 (upd H p (.lst ws)) (vs ++ [.ref p]) (xs ++ [.lst ts]) := (r.on (Same.new hp)).put (TgAt.newL hp (well_ne r.wl hp) a)
theorem Rg.dct {p : Addr} (r : Rg C d H0 H vs xs) (hp : H p = none) : Rg C d H0 (upd H p (.dK [])) (vs ++ [.ref p]) (xs ++ [.dct]) := (r.on (Same.new hp)).put (.dct upd_same)
end
def HowAt (H : Hp) (z : V) : Prop := ∃ (q : Addr) (h mo : Int) (tw : Bool), z = .ref q ∧ H q = some (.tup [.int h, .int mo, .bl tw]) ∧ (0 ≤ h ∧ h < 4) ∧ (0 ≤ mo ∧ mo < 4)
section
variable {P : Program} {w : World} {K : PySem.W.Frag} {mg : Str → Option Value} {base : Heap}
theorem same_out66 {H H1 H2 : Hp} {d : Addr} (s : Same H H1) (n : H d = none) (o : Out d H1 H2) : Same H H2 := fun b u e => o b u (ne_of_none e n) (s _ _ e)
def spLaw (K : PySem.W.Frag) : Sp := fun vs H Q _ => ∃ (a : Addr) (ns : List Int), vs = [.ref a] ∧ SqL K H a (ns.map V.int) ∧ ns.length ≤ 63 ∧ ∀ H', Q (.bl true) H'
theorem okG_law (T : Txt w K mg) : FnG P w K mg base 14 T.f_law T.fd_law ["_law_script"] (spLaw K) := by
  refine FnG.by_body T.F_law sc_law (fun vs H Q E h => ?_) (fun cdv A outer s H vs Q E hG hr h => ?_)
  · obtain ⟨a, ns, rfl, _⟩ := h
    rfl
  · obtain ⟨a, ns, rfl, hS, hl, k⟩ := h
    refine ⟨_, (pss_cons (ps_set (i := 1) sc_law.nd rfl (Or.inr rfl) (pe_call (ok_l_well T) (hr.mono (by decide)) (by rfl) T.m_l_well T.F_l_well.kp T.b_l_well .nil pass0 (pa_cons (pv 0) (pa_cons pe_int pa_nil))))
 (pss_cons (ps_setLc (i := 2) (own := [("_law_turn", 18)]) (g := gName 18) (tt := tYes) rfl sc_law.nd rfl rfl (sw_true rfl rfl rfl (by decide +kernel)) (pi_range1 rfl T.n_range (pa_cons pe_int pa_nil)) (blkOk_by (own := [("_law_turn", 18)]) (N := ["_law_script", "_law_well_here", "_law_ways", "_law_great", "_law_by", "_law_parts_here", "_law_made_here", "_law_step_made", "_law_good", "_law_mine", "_law_things", "_law_deep", "_law_further", "_law_twice", "_law_bent_here", "_law_kept", "_law_thing", "_law_told", "_law_turn"]) (sc := defScope s_law) (by decide +kernel)) (fun _ _ _ _ _ => pg_name (i := 18) sc_law.nd rfl (Or.inl rfl)) (fun _ _ _ _ _ => pts_nil) (fun _ _ _ _ _ => (pe_tup (pa_cons (pe_call (ok_l_take T) (hr.mono (by decide)) (by rfl) T.m_l_take T.F_l_take.kp T.b_l_take .nil pass0 (pa_cons (pv 1) (pa_cons pe_int pa_nil))) (pa_cons (pe_call (ok_l_take T) (hr.mono (by decide)) (by rfl) T.m_l_take T.F_l_take.kp T.b_l_take .nil pass0 (pa_cons (pv 1) (pa_cons pe_int pa_nil))) (pa_cons (pe_cmpR op_eq (pe_call (ok_l_take T) (hr.mono (by decide)) (by rfl) T.m_l_take T.F_l_take.kp T.b_l_take .nil pass0 (pa_cons (pv 1) (pa_cons pe_int pa_nil))) pe_int (nomark _)) pa_nil))))))
 (pss_cons (ps_set (i := 3) sc_law.nd rfl (Or.inl rfl) (pe_cmpR op_eq (pe_call (ok_l_take T) (hr.mono (by decide)) (by rfl) T.m_l_take T.F_l_take.kp T.b_l_take .nil pass0 (pa_cons (pv 1) (pa_cons pe_int pa_nil))) pe_int (nomark _)))
 (pss_cons (ps_set (i := 4) sc_law.nd rfl (Or.inl rfl) (pe_call (ok_l_step T) (hr.mono (by decide)) (by rfl) T.m_l_step T.F_l_step.kp T.b_l_step .nil pass0 (pa_cons (pv 1) pa_nil)))
 (pss_cons (ps_set (i := 5) sc_law.nd rfl (Or.inl rfl) (pe_call (ok_l_parts T) (hr.mono (by decide)) (by rfl) T.m_l_parts T.F_l_parts.kp T.b_l_parts .nil pass0 (pa_cons (pv 1) (pa_cons (pv 4) (pa_cons (pe_ix ix_list (pe_lst (pa_cons pe_int (pa_cons pe_int pa_nil))) (pe_callTy call_int1 (by rfl) T.n_int (by decide +kernel) (pa_cons (pv 3) pa_nil)) (fun _ _ => rfl)) pa_nil)))))
 (pss_cons (ps_par (i := 6) (j := 7) rfl sc_law.nd rfl rfl (by decide) rfl rfl (pa_cons (pe_call (ok_l_made T) (hr.mono (by decide)) (by rfl) T.m_l_made T.F_l_made.kp T.b_l_made .nil pass0 (pa_cons (pv 5) pa_nil)) (pa_cons (pe_make T.mk_Number (ok_Number_init T) (hr.mono (by decide)) (by rfl) T.m_Number T.b_Number_init2 .nil pass0 (pa_cons (pe_ix ix_tup (pv 4) pe_int (fun _ _ => rfl)) (pa_cons (pe_ix ix_tup (pv 4) pe_int (fun _ _ => rfl)) pa_nil))) pa_nil)) (by rfl))
 (pss_cons (ps_set (i := 8) sc_law.nd rfl (Or.inl rfl) (pe_call (ok_parts_rounded T) (hr.mono (by decide)) (by rfl) T.m_parts_rounded T.F_parts_rounded.kp T.b_parts_rounded .nil pass0 (pa_cons (pv 6) (pa_cons (pv 7) pa_nil))))
 (pss_cons (ps_set (i := 9) sc_law.nd rfl (Or.inl rfl) (pe_tup (pa_cons (pe_call (ok_l_counts T) (hr.mono (by decide)) (by rfl) T.m_l_counts T.F_l_counts.kp T.b_l_counts .nil pass0 (pa_cons (pv 5) (pa_cons (pv 4) pa_nil))) (pa_cons (pe_ix ix_tup (pv 8) pe_int (fun _ _ => rfl)) pa_nil))))
 (pss_cons (ps_set (i := 10) sc_law.nd rfl (Or.inl rfl) (pe_lst (pa_cons (pv 8) (pa_cons (pv 9) (pa_cons pe_non (pa_cons pe_bl (pa_cons pe_int (pa_cons pe_str (pa_cons (pe_tup pa_nil) (pa_cons (pe_lst pa_nil) (pa_cons pe_dnewK (pa_cons (pe_callTy call_list_of (by rfl) T.n_list (by decide +kernel) (pa_cons (pv 8) pa_nil)) (pa_cons (pe_tup (pa_cons (pv 8) pa_nil)) (pa_cons (pe_slice sl_tupA (pv 8) po_none (po_some pe_int)) (pa_cons (pe_slice sl_tupA (pv 8) (po_some pe_int) po_none) (pa_cons (pe_tup (pa_cons (pe_ix ix_tup (pv 8) pe_int (fun _ _ => rfl)) (pa_cons (pe_ix ix_tup (pv 8) pe_int (fun _ _ => rfl)) pa_nil))) pa_nil))))))))))))))))
 (pss_cons (ps_for PassesOwn.never rfl (pi_list (pv 2)) (pg_tup rfl (pgs_cons (pg_name (i := 11) sc_law.nd rfl (Or.inl rfl)) (pgs_cons (pg_name (i := 12) sc_law.nd rfl (Or.inl rfl)) (pgs_cons (pg_name (i := 13) sc_law.nd rfl (Or.inl rfl)) pgs_nil))))
  (pss_cons (ps_set (i := 14) sc_law.nd rfl (Or.inl rfl) (pe_call (ok_l_bent T) (hr.mono (by decide)) (by rfl) T.m_l_bent T.F_l_bent.kp T.b_l_bent .nil pass0 (pa_cons (pv 1) (pa_cons (pv 8) (pa_cons (pv 11) pa_nil)))))
 (C8.pss_cut (ps_if (pt_val (pv 13))
  (pss_one (ps_set (i := 14) sc_law.nd rfl (Or.inl rfl) (pe_call (ok_l_bent T) (hr.mono (by decide)) (by rfl) T.m_l_bent T.F_l_bent.kp T.b_l_bent .nil pass0 (pa_cons (pv 1) (pa_cons (pv 14) (pa_cons (pv 12) pa_nil))))))
  pss_nil)
 (pss_one (ps_set (i := 10) sc_law.nd rfl (Or.inl rfl) (pe_op op_cat (pv 10) (pe_lst (pa_cons (pv 14) (pa_cons (pv 8) pa_nil)))))))))
 (pss_cons (ps_set (i := 15) sc_law.nd rfl (Or.inl rfl) (pe_callB (call_reprT66 (nt := RText) (D := 8) hG (ok_Number_repr T) T.me_Number_repr.at_ T.me_Number_repr.fn T.b_Number_repr (hr.mono (by decide))) (by rfl) T.n_repr (by decide +kernel) (pa_cons (pe_tup (pa_cons (pv 10) (pa_cons (pv 6) (pa_cons (pv 7) pa_nil)))) pa_nil)))
 (pss_cons (ps_for PassesOwn.never rfl (pi_list (pv 10)) (pg_name (i := 16) sc_law.nd rfl (Or.inl rfl))
  (pss_cons (ps_set (i := 17) sc_law.nd rfl (Or.inl rfl) (pe_lst (pa_cons (pe_call (ok_sum_holds T) (hr.mono (by decide)) (by rfl) T.m_sum_holds T.F_sum_holds.kp T.b_sum_holds .nil pass0 (pa_cons (pv 6) (pa_cons (pv 7) (pa_cons (pv 16) pa_nil)))) (pa_cons (pe_call (ok_sum_holds T) (hr.mono (by decide)) (by rfl) T.m_sum_holds T.F_sum_holds.kp T.b_sum_holds .nil pass0 (pa_cons (pv 6) (pa_cons (pv 7) (pa_cons (pv 16) pa_nil)))) pa_nil))))
 (pss_one (ps_if (pt_cmpR op_ne (pe_callB (call_repr hG hr.units) (by rfl) T.n_repr (by decide +kernel) (pa_cons (pv 17) pa_nil)) (pe_callB (call_repr hG hr.units) (by rfl) T.n_repr (by decide +kernel) (pa_cons (pe_op op_rep (pe_lst (pa_cons (pe_call (ok_l_holds T) (hr.mono (by decide)) (by rfl) T.m_l_holds T.F_l_holds.kp T.b_l_holds .nil pass0 (pa_cons (pv 5) (pa_cons (pv 4) (pa_cons (pv 16) pa_nil)))) pa_nil)) pe_int) pa_nil)) (nomark _))
  (pss_one (ps_ret pe_bl))
  pss_nil))))
 (pss_one (ps_ret (pe_and (pe_cmpR op_eq (pe_callB (call_reprT66 (nt := RText) (D := 8) hG (ok_Number_repr T) T.me_Number_repr.at_ T.me_Number_repr.fn T.b_Number_repr (hr.mono (by decide))) (by rfl) T.n_repr (by decide +kernel) (pa_cons (pe_tup (pa_cons (pv 10) (pa_cons (pv 6) (pa_cons (pv 7) pa_nil)))) pa_nil)) (pv 15) (nomark _)) (pe_one (pe_call (ok_l_holds T) (hr.mono (by decide)) (by rfl) T.m_l_holds T.F_l_holds.kp T.b_l_holds .nil pass0 (pa_cons (pv 5) (pa_cons (pv 4) (pa_cons (pv 8) pa_nil)))))))))))))))))))), ?_⟩
    have E6' : (10 : Int) ^ 6 = 1000000 := rfl
    have E12' : (10 : Int) ^ 12 = 1000000000000 := rfl
    walk_at "rdh"
    refine ⟨a, ns, 0, rfl, hS, fun d H2 s2 nd w2 => ?_⟩
    walk_at "rdh"
    refine r_lcN ?_
    walk_at "rdh"
    refine ⟨20, rfl, by decide, by decide, fun Dh hDh => ?_⟩
    have Dd := well_ne w2 hDh
    refine lc_range (lo := 0) (n := 20) (fun j H' => WellAt H' d ∧ ∃ zs : List V, H' Dh = some (.lst zs) ∧ zs.length = j ∧ j ≤ 20 ∧ ∀ z ∈ zs, HowAt H' z)
      ⟨w2.same (Same.new hDh), [], upd_same, rfl, by decide, fun z hz => by cases hz⟩ ?_ ?_
    · rintro j H4 hj ⟨dk4, zs, hz, lz, j8, rows⟩
      walk_at "rdh"
      refine ⟨rfl, ?_⟩
      refine r_tyes ?_
      walk_at "rdh"
      refine rd_take dk4 (by decide) (by decide) fun q1 H5 o5 dk5 q10 q11 => ?_
      walk_at "rdh"
      refine rd_take dk5 (by decide) (by decide) fun q2 H6 o6 dk6 q20 q21 => ?_
      walk_at "rdh"
      refine rd_take dk6 (by decide) (by decide) fun q3 H7 o7 dk7 _ _ => ?_
      walk_at "rdh"
      refine r_new (by show 3 ≤ 1000; decide) fun t ht => ?_
      have hz7 := ((o5.trans o6).trans o7) Dh _ Dd hz
      have sn := Same.new (o := .tup [.int q1, .int q2, .bl (decide (q3 = 1))]) ht
      have hz8 := sn _ _ hz7
      refine ⟨zs, hz8, by rw [lz]; exact Nat.lt_of_le_of_lt j8 (by decide), ?_, zs ++ [.ref t], upd_same, by rw [List.length_append, lz]; rfl, by omega, fun z hz' => ?_⟩
      · obtain ⟨x1, x2, x3, hx⟩ := dk7.same sn
        exact ⟨x1, x2, x3, by rw [upd_ne (Ne.symm Dd)]; exact hx⟩
      rcases List.mem_append.mp hz' with h | h
      · obtain ⟨q, h1, mo, tw, e, hq, r⟩ := rows z h
        have hq8 := sn _ _ (((o5.trans o6).trans o7).keep dk4 hq (fun _ z => by cases z))
        exact ⟨q, h1, mo, tw, e, by rw [upd_ne (ne_of hq8 hz8 (fun z => by cases z))]; exact hq8, r⟩
      · obtain rfl := List.mem_singleton.mp h
        exact ⟨t, q1, q2, _, rfl, by rw [upd_ne (ne_of (H := upd H7 t (.tup [.int q1, .int q2, .bl (decide (q3 = 1))])) upd_same hz8 (fun z => by cases z))]; exact upd_same, ⟨q10, q11⟩, q20, q21⟩
    rintro H2 ⟨w2, zs, hz2, lz, _, rows2⟩
    walk_at "rdh"
    refine rd_take w2 (by decide) (by decide) fun gr H3 o3 w3 g0 g1 => ?_
    walk_at "rdh"
    refine ⟨d, rfl, w3, fun sp st sb H4 o4 w4 ⟨hsp, _⟩ ⟨le1, le2⟩ => ?_⟩
    have pos : 0 < st ∧ 0 < sb := by
      rename_i q
      exact ⟨q.1.1, q.2.1⟩
    have hst : Stp st sb := by
      unfold Stp
      rw [E12']
      rw [E6'] at le1 le2
      omega
    walk_at "rdh"
    refine r_new (by show 2 ≤ 1000; decide) fun gl hgl => ?_
    have sgl := Same.new (o := .lst [.int 6, .int 12]) hgl
    have egl := upd_same (H := H4) (a := gl) (o := HO.lst [.int 6, .int 12])
    generalize upd H4 gl (.lst [.int 6, .int 12]) = H5 at *
    walk_at "rdh"
    refine .inr ⟨_, rfl, ?_⟩
    refine r_ixL egl (two_at _) ?_
    walk_at "rdh"
    have mst : 0 < (if decide (gr = 5) = true then (12 : Int) else 6) ∧ (if decide (gr = 5) = true then (12 : Int) else 6) ≤ 12 := by split <;> omega
    generalize (if decide (gr = 5) = true then (12 : Int) else 6) = most at *
    refine ⟨d, sp, st, sb, most, rfl, w4.same sgl, sgl _ _ hsp, ⟨⟨pos.1, le1⟩, ⟨pos.2, le2⟩⟩, mst, fun p ps H6 o6 w6 hp np pl okp => ?_⟩
    have w5 := w4.same sgl
    have pd := well_ne w5 np
    have hsp6 := o6.keep w5 (sgl _ _ hsp) (fun _ z => by cases z)
    have o26 := ((o3.trans o4).trans (Out.of sgl)).trans o6
    have l40 : ps.length ≤ 40 := by omega
    have hz6 := o26 Dh _ Dd hz2
    have rows6 : ∀ z ∈ zs, HowAt H6 z := fun z hz => let ⟨q, h1, mo, tw, e, hq, r⟩ := rows2 z hz; ⟨q, h1, mo, tw, e, o26.keep w2 hq (fun _ z => by cases z), r⟩
    walk_at "rdh"
    refine ⟨p, ps, rfl, hp, okp, l40, fun m H7 s7 hm => ?_⟩
    walk_at "rdh"
    refine r_ixT (s7 _ _ hsp6) (atI_nat (j := 0) rfl) ?_
    walk_at "rdh"
    refine r_ixT (s7 _ _ hsp6) (atI_nat (j := 1) rfl) ?_
    walk_at "rdh"
    have stb := stp_lt hst
    refine mk_num (by omega) (Nat.lt_of_lt_of_le stb.2 (Nat.pow_le_pow_right (by decide) (by decide))) fun n H8 s8 n8 hn8 => ?_
    have s68 := s7.trans s8
    walk_at "rdh"
    have y0 : 0 < Rat.divInt st sb := (div_pos_iff pos.2).mpr pos.1
    have yb : Bd 45 (Rat.divInt st sb) := Bd.of (by omega) (Nat.lt_of_lt_of_le stb.1 (by decide)) (Nat.lt_of_lt_of_le stb.2 (by decide))
    have xb : ∀ x ∈ ps.map xQ, Bd 105 x := fun x hx => by
      obtain ⟨e, he, rfl⟩ := List.mem_map.mp hx
      have o1 := (okp e he).1
      exact Bd.of (by omega) (okp e he).2 (by omega)
    have xo := xs_over hst okp
    have so : sumQ (ps.map xQ) / Rat.divInt st sb = sumQ (ps.map (uQ st sb)) := by rw [← sumQ_over, xo]
    generalize hus : ps.map (uQ st sb) = us at *
    have ul : us.length = ps.length := by rw [← hus, List.length_map]
    have ub : ∀ u ∈ us, Bd 145 u := fun u hu => by
      rw [← hus] at hu
      obtain ⟨e, he, rfl⟩ := List.mem_map.mp hu
      have o := okp e he
      have up := under_pos hst o
      exact Bd.of (by omega) (over_lt hst o) (Nat.lt_of_lt_of_le (under_lt hst o) (by decide))
    have lim : (105 + 1) * ((ps.map xQ).length + 1) ≤ 2300 ∧ (105 + 45) * (ps.map xQ).length + 1 ≤ 6000 ∧ 105 ≤ 900 := by
      rw [List.length_map]
      omega
    refine ⟨m, n, ps.map xQ, Rat.divInt st sb, 105, rfl, hm.same s8, hn8, ⟨y0, yb⟩, xb, by rw [List.length_map]; omega, lim, fun t p2 q cs wq L H9 s9 ht hp2 hq o hcw => ?_⟩
    rw [xo, so] at hcw
    rw [xo] at o
    have o' : Ord (FQ us) us.length L := by
      have z := o
      rw [List.length_map, ← ul] at z
      exact z
    obtain ⟨ec, ew⟩ := hcw (kQ us) (by have := k_left (us := us); unfold sumF at this; exact this)
    rw [List.length_map, ← ul, told_cnt o'] at ec
    have pap : PapOk us wq := pap_ok o' ew
    have wb : Bd 145 wq := pap_bd66 (by decide) ub ew
    subst ec
    have cl := cnt_len us
    have cb := cnt_bd66 ub
    have cb2 : ∀ c ∈ cntQ us, c.natAbs < 2 ^ 146 := fun c hc => Nat.lt_of_le_of_lt (cb c hc) (Nat.pow_lt_pow_right (by decide) (by decide))
    have ap : allPut us (cntQ us) wq = true := put_all cl fun i u c hu hc => put_told pap hu hc
    have inr : inR wq = true := by
      unfold inR
      rw [decide_eq_true (Rat.num_nonneg.mpr pap.lo), decide_eq_true (num_le_den pap.hi)]
      rfl
    have s69 := s68.trans s9
    walk_at "rdh"
    refine ⟨p, sp, ps, st, sb, rfl, hp.same s69, ⟨s69 _ _ hsp6, hst⟩, okp, l40, fun u HA sa hu => ?_⟩
    rw [hus] at hu
    have htA := sa _ _ ht
    have hp2A := sa _ _ hp2
    have hqA := hq.same sa
    walk_at "rdh"
    refine r_ixT htA (atI_nat (j := 1) rfl) ?_
    walk_at "rdh"
    refine r_new (by show 2 ≤ 1000; decide) fun mi hmi => ?_
    have sm := Same.new (o := .tup [.ref u, .ref q]) hmi
    have em := upd_same (H := HA) (a := mi) (o := HO.tup [.ref u, .ref q])
    generalize upd HA mi (.tup [.ref u, .ref q]) = HB at *
    have s6B := (s69.trans sa).trans sm
    have wB := w6.same s6B
    have hpB := hp.same s6B
    have hspB := s6B _ _ hsp6
    have s8B := (s9.trans sa).trans sm
    have hmB := hm.same (s8.trans s8B)
    have hnB := hn8.same s8B
    have hzB := s6B _ _ hz6
    have rowsB : ∀ z ∈ zs, HowAt HB z := fun z hz => let ⟨q, h1, mo, tw, e, hq, r⟩ := rows6 z hz; ⟨q, h1, mo, tw, e, s6B _ _ hq, r⟩
    have htB := sm _ _ htA
    have hp2B := sm _ _ hp2A
    have hqB := hqA.same sm
    have tA : TgAll T.C_Number d HB [.ref p2, .ref q] [.tup ((cntQ us).map Tg.int), .num wq] := .cons (.tup hp2B (ints_all _)) (.cons (.num hqB) .nil)
    have tG : TgAt T.C_Number d HB (.ref t) (.tup [.tup ((cntQ us).map Tg.int), .num wq]) := .tup htB tA
    have tM : TgAt T.C_Number d HB (.ref mi) (.tup [.tup ((cntQ us).map Tg.int), .num wq]) := .tup em (.cons (.tup (sm _ _ hu) (ints_all _)) (.cons (.num hqB) .nil))
    generalize htold : Tg.tup [.tup ((cntQ us).map Tg.int), .num wq] = told at *
    have fc : Fi 160 12 1 (.tup ((cntQ us).map Tg.int)) := (fi_ints (k := 146) (m := 0) cb2).tup.mono (by decide) (by omega) (by decide)
    have fw : Fi 160 0 1 (.num wq) := ⟨by unfold okT; exact wb.mono (by decide), Nat.zero_le _, Nat.zero_le _⟩
    have fT : Fi 160 14 2 told := by
      rw [← htold]
      exact ((Fs.one fc).app (Fs.one fw)).tup.mono (Nat.le_refl _) (by decide) (by decide)
    have R0 : Rg T.C_Number d HB HB [.ref t, .ref mi, .non, .bl true, .int 0, .str ""] [told, told, .non, .bl true, .int 0, .str ""] := ⟨wB, .cons tG (.cons tM (.cons .non (.cons (.bl _) (.cons (.int _) (.cons (.str _) .nil))))), Same.refl _⟩
    walk_at "rdh"
    refine r_new (by show 0 ≤ 1000; decide) fun b1 h1 => ?_
    have R1 := R0.tup h1 .nil
    generalize upd HB b1 (.tup []) = HC1 at *
    walk_at "rdh"
    refine r_new (by show 0 ≤ 1000; decide) fun b2 h2 => ?_
    have R2 := R1.lst h2 .nil
    generalize upd HC1 b2 (.lst []) = HC2 at *
    walk_at "rdh"
    refine r_dnewQ fun b3 h3 => ?_
    have R3 := R2.dct h3
    generalize upd HC2 b3 (.dK []) = HC3 at *
    walk_at "rdh"
    refine ⟨t, _, rfl, .inr (SqT.of (R3.same _ _ htB)), fun b4 h4 => ?_⟩
    have R4 := R3.lst h4 (tA.same R3.same)
    generalize upd HC3 b4 (.lst [.ref p2, .ref q]) = HC4 at *
    walk_at "rdh"
    refine r_new (by show 1 ≤ 1000; decide) fun b5 h5 => ?_
    have R5 := R4.tup h5 (.cons (tG.same R4.same) .nil)
    generalize upd HC4 b5 (.tup [.ref t]) = HC5 at *
    have tp5 : TpT T.C_Number d HC5 t [.tup ((cntQ us).map Tg.int), .num wq] := ⟨_, R5.same _ _ htB, tA.same R5.same⟩
    walk_at "rdh"
    refine slT_to (n := 1) tp5 rfl fun b6 HC6 s6 u6 => ?_
    have R6 := (R5.on s6).put u6.at_
    walk_at "rdh"
    refine slT_from (n := 1) (tp5.same s6) rfl fun b7 HC7 s7 u7 => ?_
    have R7 := (R6.on s7).put u7.at_
    walk_at "rdh"
    refine r_ixT (R7.same _ _ htB) (atI_nat (j := 0) rfl) ?_
    walk_at "rdh"
    refine r_ixT (R7.same _ _ htB) (atI_nat (j := 0) rfl) ?_
    walk_at "rdh"
    refine r_new (by show 2 ≤ 1000; decide) fun b8 h8 => ?_
    have c7 : TgAt T.C_Number d HC7 (.ref p2) (.tup ((cntQ us).map Tg.int)) := .tup (R7.same _ _ hp2B) (ints_all _)
    have R8 := R7.tup h8 (.cons c7 (.cons c7 .nil))
    generalize upd HC7 b8 (.tup [.ref p2, .ref p2]) = HC8 at *
    walk_at "rdh"
    refine r_new (by show 14 ≤ 1000; decide) fun D0 hD0 => ?_
    have R9 := R8.on (Same.new (o := .lst [.ref t, .ref mi, .non, .bl true, .int 0, .str "", .ref b1, .ref b2, .ref b3, .ref b4, .ref b5, .ref b6, .ref b7, .ref b8]) hD0)
    have eD0 := upd_same (H := HC8) (a := D0) (o := HO.lst [.ref t, .ref mi, .non, .bl true, .int 0, .str "", .ref b1, .ref b2, .ref b3, .ref b4, .ref b5, .ref b6, .ref b7, .ref b8])
    have D0d := well_ne R8.wl hD0
    generalize upd HC8 D0 (.lst [.ref t, .ref mi, .non, .bl true, .int 0, .str "", .ref b1, .ref b2, .ref b3, .ref b4, .ref b5, .ref b6, .ref b7, .ref b8]) = HC9 at *
    have fit0 : ∀ {x : Tg}, okT 200 x → szT x ≤ 80 → dpT x ≤ 7 → Fi 200 80 7 x := fun a b c => ⟨a, b, c⟩
    have fT2 : Fi 200 80 7 told := fT.mono (by decide) (by decide) (by decide)
    walk_at "rdh"
    refine r_forL ?_
    walk_at "rdh"
    have sB9 := R9.same
    refine ⟨Dh, rfl, ⟨_, SqL.of (sB9 _ _ hzB)⟩, for_list (K := K) (a := Dh) (xs := zs) (fun j σ H' => ∃ (w11 w12 w13 w14 w15 w16 w17 w18 : Option V) (D : Addr) (vs : List V) (xs : List Tg), σ = [some (.ref a), some (.ref d), some (.ref Dh), some (.bl (decide (gr = 5))), some (.ref sp), some (.ref p), some (.ref m), some (.ref n), some (.ref t), some (.ref mi), some (.ref D), w11, w12, w13, w14, w15, w16, w17, w18] ∧ Out d HB H' ∧ WellAt H' d ∧ D ≠ d ∧ H' D = some (.lst vs) ∧ TgAll T.C_Number d H' vs xs ∧ (∀ x ∈ xs, Fi 200 80 7 x) ∧ vs.length = 14 + 2 * j)
      ⟨_, _, _, _, _, _, _, _, _, _, _, rfl, Out.of sB9, R9.wl, D0d, eD0, R9.all, ?_, rfl⟩ (fun j σ H' _ ⟨_, _, _, _, _, _, _, _, _, _, _, _, o, _⟩ => SqL.of (o Dh _ Dd hzB)) ?_ ?_⟩
    · intro x hx
      have hx' : x ∈ [told, told, .non, .bl true, .int 0, .str "", .tup [], .lst [], .dct, .lst [.tup ((cntQ us).map Tg.int), .num wq], .tup [told], .tup [.tup ((cntQ us).map Tg.int)], .tup [.num wq], .tup [.tup ((cntQ us).map Tg.int), .tup ((cntQ us).map Tg.int)]] := hx
      simp only [List.mem_cons, List.not_mem_nil, or_false] at hx'
      rcases hx' with rfl | rfl | rfl | rfl | rfl | rfl | rfl | rfl | rfl | rfl | rfl | rfl | rfl | rfl
      · exact fT2
      · exact fT2
      · exact ⟨by unfold okT; trivial, Nat.zero_le _, Nat.zero_le _⟩
      · exact ⟨by unfold okT; trivial, Nat.zero_le _, Nat.zero_le _⟩
      · exact ⟨by unfold okT; decide, Nat.zero_le _, Nat.zero_le _⟩
      · exact ⟨by unfold okT; exact ⟨by unfold FT; decide, by decide⟩, Nat.zero_le _, Nat.zero_le _⟩
      · exact (Fs.nil (k := 200) (n := 0) (m := 0)).tup.mono (by decide) (by decide) (by decide)
      · exact (Fs.nil (k := 200) (n := 0) (m := 0)).lst.mono (by decide) (by decide) (by decide)
      · exact ⟨by unfold okT; trivial, Nat.zero_le _, Nat.zero_le _⟩
      · exact ((Fs.one fc).app (Fs.one fw)).lst.mono (by decide) (by decide) (by decide)
      · exact (Fs.one fT).tup.mono (by decide) (by decide) (by decide)
      · exact (Fs.one fc).tup.mono (by decide) (by decide) (by decide)
      · exact (Fs.one fw).tup.mono (by decide) (by decide) (by decide)
      · exact ((Fs.one fc).app (Fs.one fc)).tup.mono (by decide) (by decide) (by decide)
    · rintro j z σ H13 hzj ⟨w11, w12, w13, w14, w15, w16, w17, w18, D, vs, xs, rfl, oD, wD, Dnd, eD, aD, fD, lD⟩
      have jl : j < 20 := by
        have := (List.getElem?_eq_some_iff.mp hzj).1
        omega
      obtain ⟨q', h1', mo, tw, rfl, hq', ⟨h10, h11⟩, m10, m11⟩ := rowsB z (List.mem_of_getElem? hzj)
      refine r_gTup (oD.keep wB hq' (fun _ z => by cases z)) rfl ?_
      walk_at "rdh"
      refine bent_at wD (tG.out oD wB) fT ⟨by decide, by decide, by decide, h10, by omega⟩ fun v' x' H14 o14 w14' hd14 f14 => ?_
      walk_at "rdh"
      refine r_cut (fun σ' H' => ∃ (v : V) (x : Tg), σ' = [some (.ref a), some (.ref d), some (.ref Dh), some (.bl (decide (gr = 5))), some (.ref sp), some (.ref p), some (.ref m), some (.ref n), some (.ref t), some (.ref mi), some (.ref D), some (.int h1'), some (.int mo), some (.bl tw), some v, w15, w16, w17, w18] ∧ Out d H13 H' ∧ WellAt H' d ∧ TgAt T.C_Number d H' v x ∧ Fi 200 80 7 x) ?_ ?_
      · walk_at "rdh"
        refine r_ite (fun e => ?_) (fun e => ?_)
        · walk_at "rdh"
          refine bent_at w14' hd14 f14 ⟨by decide, by decide, by decide, m10, by omega⟩ fun v2 x2 H15 o15 w15' hd15 f15 => ?_
          walk_at "rdh"
          exact ⟨v2, x2, rfl, o14.trans o15, w15', hd15, f15.mono (by decide) (by decide) (by decide)⟩
        · walk_at "rdh"
          exact ⟨v', x', rfl, o14, w14', hd14, f14.mono (by decide) (by decide) (by decide)⟩
      rintro σ' H16 ⟨v, x, rfl, o16, w16', hv, fv⟩
      walk_at "rdh"
      refine r_new (by show 2 ≤ 1000; decide) fun l4 ql4 => ?_
      have M1 := Same.new (o := .lst [v, .ref t]) ql4
      refine r_cat (M1 _ _ (o16 _ _ Dnd eD)) upd_same (by show vs.length + 2 ≤ 100000; omega) fun D' qD' => ?_
      have M2 := M1.trans (Same.new (o := .lst (vs ++ [v, .ref t])) qD')
      have Dd' := well_ne (w16'.same M1) qD'
      walk_at "rdh"
      have oF := oD.trans (o16.trans (Out.of M2))
      refine ⟨_, _, _, _, _, _, _, _, D', vs ++ [v, .ref t], xs ++ [x, told], rfl, oF, w16'.same M2, Dd', upd_same, ?_, ?_, by rw [List.length_append]; show vs.length + 2 = _; omega⟩
      · exact ((aD.out o16 wD).same M2).app (.cons (hv.same M2) (.cons (tG.out oF wB) .nil))
      · intro y hy
        rcases List.mem_append.mp hy with h | h
        · exact fD y h
        · simp only [List.mem_cons, List.not_mem_nil, or_false] at h
          rcases h with rfl | rfl
          · exact fv
          · exact fT2
    rintro σ HD ⟨w11, w12, w13, w14, w15, w16, w17, w18, D, vs, xs, rfl, oD, wD, Dnd, eD, aD, fD, lD⟩
    have hpD := hpB.out oD wB pd
    have hspD := oD.keep wB hspB (fun _ z => by cases z)
    have hnD := hnB.out oD wB
    obtain ⟨mv, hmv, hmt⟩ := id hmB
    have hmD : PartsAt T.C_Number HD m (ps.map xQ) := ⟨mv, oD.keep wB hmv (fun _ z => by cases z), hmt.out oD wB⟩
    have tGD := tG.out oD wB
    have vl : vs.length = 54 := by rw [lD, lz]
    have xl : xs.length = 54 := by rw [← aD.len, vl]
    obtain ⟨mvD, hmvD, hmtD⟩ := id hmD
    have mlD := hmtD.len
    have cE : szTs [Tg.lst xs, .tup ((ps.map xQ).map Tg.num), .num (Rat.divInt st sb)] ≤ 5000 := by
      have a := szTs_le (n := 80) (xs := xs) fun x hx => (fD x hx).sz
      have b := szTs_le (n := 0) (xs := (ps.map xQ).map Tg.num) fun x hx => by
        obtain ⟨y, _, rfl⟩ := List.mem_map.mp hx
        exact Nat.le_refl _
      rw [xl] at a
      rw [List.length_map, List.length_map] at b
      show szTs xs + 1 + (szTs ((ps.map xQ).map Tg.num) + 1 + (0 + 1 + 0)) ≤ 5000
      omega
    have okE : okTs 200 [Tg.lst xs, .tup ((ps.map xQ).map Tg.num), .num (Rat.divInt st sb)] := by
      refine okTs_iff.mpr fun x hx => ?_
      simp only [List.mem_cons, List.not_mem_nil, or_false] at hx
      rcases hx with rfl | rfl | rfl
      · unfold okT
        exact okTs_iff.mpr fun x hx => (fD x hx).ok
      · unfold okT
        refine okTs_iff.mpr fun x hx => ?_
        obtain ⟨y, hy, rfl⟩ := List.mem_map.mp hx
        unfold okT
        exact (xb y hy).mono (by decide)
      · unfold okT
        exact yb.mono (by decide)
    have dpE : dpTs [Tg.lst xs, .tup ((ps.map xQ).map Tg.num), .num (Rat.divInt st sb)] ≤ 8 := by
      refine dpTs_iff.mpr fun x hx => ?_
      simp only [List.mem_cons, List.not_mem_nil, or_false] at hx
      rcases hx with rfl | rfl | rfl
      · have : dpTs xs ≤ 7 := dpTs_iff.mpr fun x hx => (fD x hx).dp
        show dpTs xs + 1 ≤ 8
        omega
      · have : dpTs ((ps.map xQ).map Tg.num) ≤ 0 := dpTs_iff.mpr fun x hx => by
          obtain ⟨y, _, rfl⟩ := List.mem_map.mp hx
          exact Nat.le_refl _
        show dpTs ((ps.map xQ).map Tg.num) + 1 ≤ 8
        omega
      · exact Nat.zero_le _
    have lenE : (shT RText (.tup [Tg.lst xs, .tup ((ps.map xQ).map Tg.num), .num (Rat.divInt st sb)])).length ≤ sizeLine := by
      have := sh_len66 (.tup [Tg.lst xs, .tup ((ps.map xQ).map Tg.num), .num (Rat.divInt st sb)]) (okT_mono (by decide) (show okT 200 (.tup _) by unfold okT; exact okE))
      have e : szT (.tup [Tg.lst xs, .tup ((ps.map xQ).map Tg.num), .num (Rat.divInt st sb)]) = szTs [Tg.lst xs, .tup ((ps.map xQ).map Tg.num), .num (Rat.divInt st sb)] := rfl
      have sl : sizeLine = 16777216 := rfl
      rw [e] at this
      omega
    have shown : ∀ {H' : Hp} {Q' : VK} {f : Addr}, Same HD H' → H' f = some (.tup [.ref D, .ref m, .ref n]) → Q' (.str (shT RText (.tup [Tg.lst xs, .tup ((ps.map xQ).map Tg.num), .num (Rat.divInt st sb)]))) H' → rReprT66 T.C_Number (spRepr T.C_Number) RText 8 [.ref f] H' Q' := fun {H' Q' f} s hf q =>
      ⟨d, f, _, 200, rfl, .tup hf (.cons (.lst Dnd (s _ _ eD) (aD.same s)) (.cons (.tup (s _ _ hmvD) ((nums_all hmtD).same s)) (.cons (.num (hnD.same s)) .nil))), okE, by decide, dpE, fun p x R h b r => ⟨p, x, rfl, h, b.mono (by decide), r⟩, lenE, q⟩
    clear lenE
    generalize shT RText (.tup [Tg.lst xs, .tup ((ps.map xQ).map Tg.num), .num (Rat.divInt st sb)]) = txt at shown
    dsimp only
    walk_at "rdh"
    refine r_new (by show 3 ≤ 1000; decide) fun f1 qf1 => ?_
    have sf1 := Same.new (o := .tup [.ref D, .ref m, .ref n]) qf1
    walk_at "rdh"
    refine shown sf1 upd_same ?_
    generalize upd HD f1 (.tup [.ref D, .ref m, .ref n]) = HE at *
    walk_at "rdh"
    refine r_forL ?_
    walk_at "rdh"
    have lim' : (105 + 1) * ((ps.map xQ).length + 1) ≤ 2300 ∧ 105 ≤ 900 := ⟨lim.1, lim.2.2⟩
    have tot : roundB (sumQ us) = fun c => decide (c = takenQ .heven (sumQ us)) := by
      funext c
      exact round_iff _ _
    refine ⟨D, rfl, ⟨_, SqL.of (sf1 _ _ eD)⟩, for_list (K := K) (a := D) (xs := vs) (fun j σ H' => ∃ (u16 u17 : Option V), σ = [some (.ref a), some (.ref d), some (.ref Dh), some (.bl (decide (gr = 5))), some (.ref sp), some (.ref p), some (.ref m), some (.ref n), some (.ref t), some (.ref mi), some (.ref D), w11, w12, w13, w14, some (.str (txt)), u16, u17, w18] ∧ Same HD H')
      ⟨_, _, rfl, sf1⟩ (fun j σ H' _ ⟨_, _, _, s⟩ => SqL.of (s _ _ eD)) ?_ ?_⟩
    · rintro j z σ H14 hzj ⟨u16, u17, rfl, s14⟩
      obtain ⟨th, hth, hdt⟩ := aD.get hzj
      have fth := fD th (List.mem_of_getElem? hth)
      have bth := fth.bound (by decide)
      walk_at "rdh"
      refine ⟨m, n, d, z, th, ps.map xQ, Rat.divInt st sb, 105, rfl, hmD.same s14, hnD.same s14, ⟨y0, yb⟩, xb, by rw [List.length_map]; omega, lim', hdt.same s14, bth, fun HL sL => ?_⟩
      rw [xo, so, tot]
      walk_at "rdh"
      have s14L := s14.trans sL
      refine ⟨m, n, d, z, th, ps.map xQ, Rat.divInt st sb, 105, rfl, hmD.same s14L, hnD.same s14L, ⟨y0, yb⟩, xb, by rw [List.length_map]; omega, lim', hdt.same s14L, bth, fun HM sM => ?_⟩
      rw [xo, so, tot]
      have s14M := s14L.trans sM
      generalize hB : putT us (fun c => decide (c = takenQ .heven (sumQ us))) th = B at *
      walk_at "rdh"
      refine r_new (by show 2 ≤ 1000; decide) fun tl htl => ?_
      have stl := Same.new (o := .lst [.bl B, .bl B]) htl
      have etl := upd_same (H := HM) (a := tl) (o := HO.lst [.bl B, .bl B])
      generalize upd HM tl (.lst [.bl B, .bl B]) = HN at *
      have s14N := s14M.trans stl
      walk_at "rdh"
      refine rd_reprB etl ?_
      walk_at "rdh"
      refine ⟨p, sp, d, z, th, ps, st, sb, rfl, hpD.same s14N, ⟨s14N _ _ hspD, hst⟩, okp, l40, hdt.same s14N, bth, fun HO' sO => ?_⟩
      rw [hus, hB]
      walk_at "rdh"
      refine r_new (by show 1 ≤ 1000; decide) fun ol hol => ?_
      have sol := Same.new (o := .lst [.bl B]) hol
      walk_at "rdh"
      refine ⟨ol, 2, [.bl B], rfl, rfl, upd_same, by decide, by decide, by show 1 * 2 ≤ sizeLine; decide, fun o2 ho2 => ?_⟩
      have so2 := Same.new (o := .lst [.bl B, .bl B]) ho2
      have ef : (List.replicate (2 : Int).toNat [V.bl B]).flatten = [.bl B, .bl B] := rfl
      rw [ef]
      walk_at "rdh"
      refine rd_reprB (b := B) upd_same ?_
      refine r_ne rfl ?_
      walk_at "rdh"
      refine r_iteF (by simp) ?_
      walk_at "rdh"
      exact ⟨_, _, rfl, (((s14N.trans sO).trans sol).trans so2)⟩
    · rintro σ HF ⟨u16, u17, rfl, sF⟩
      dsimp only
      walk_at "rdh"
      refine r_new (by show 3 ≤ 1000; decide) fun f2 qf2 => ?_
      have sf2 := sF.trans (Same.new (o := .tup [.ref D, .ref m, .ref n]) qf2)
      walk_at "rdh"
      refine shown sf2 upd_same ?_
      walk_at "rdh"
      refine r_iteT (decide_eq_true rfl) ?_
      walk_at "rdh"
      refine ⟨p, sp, d, .ref t, told, ps, st, sb, rfl, hpD.same sf2, ⟨sf2 _ _ hspD, hst⟩, okp, l40, tGD.same sf2, fT.bound (by decide), fun HG sG => ?_⟩
      rw [hus, ← htold, put_told66 (by omega) inr, ap, cnt_sum, decide_eq_true rfl]
      exact k _
end
end My

namespace My
open PySem L2
theorem kit_self {K : PySem.W.Frag} {C : Addr} : PySem.W.kitOne K (.ref C) (.ref C) = some true := if_pos (by simp)
theorem bi_Number_init {K : PySem.W.Frag} {f : Addr} {fd : FuncData} (F : FunD K "__init__" "Number.__init__" (defArgs s_Number_init) (defBody s_Number_init) (defScope s_Number_init) [V.int 1] [] f fd) :
    Binds K fd ["self", "top", "bottom"] [] ∧ ∃ ds : List Value, Vals [V.int 1] ds ∧ Binds K fd ["self", "top", "bottom"] ds := by
  constructor
  · obtain ⟨ds, r, b⟩ := F.binds1 (ps := ["self", "top", "bottom"]) 3 1 (by simp) rfl fun T kV doc pm an cdv ct us its h1 h2 => match us, its, h1, h2 with | [_, _, _], [_], _, _ => ⟨_, rfl, rfl⟩
    cases r
    exact b
  · exact F.binds1 (ps := ["self", "top", "bottom"]) 2 0 (by simp) rfl fun T kV doc pm an cdv ct us its h1 h2 => match us, its, h1, h2 with | [_, _], [_], _, _ => ⟨_, rfl, rfl⟩
theorem bi_round_paper {K : PySem.W.Frag} {f : Addr} {fd : FuncData} (F : FunD K "round_paper" "round_paper" (defArgs s_round_paper) (defBody s_round_paper) (defScope s_round_paper) [] [(("way" : Str), V.str "half even")] f fd) :
    KBn K fd ["number", "step", "way"] 2 ["way"] (fun us ws => us ++ ws) (fun vs zs => vs ++ zs) ∧ ∃ ds : List Value, Vals [V.str "half even"] ds ∧ Binds K fd ["number", "step", "way"] ds := by
  constructor
  · obtain ⟨oc, od, dV, kV, doc, pm, an, cdv, ct, osl, rfl, lk, hcd, hD, hK⟩ := F.ex
    rcases hD with ⟨_, rfl⟩ | ⟨e, _⟩
    · rcases hK with e | ⟨D, rfl, hq⟩
      · cases e
      · exact ⟨fun s us ws X h1 h2 => match us, ws, h1, h2 with | [_, _], [_], _, _ => .of_eq rfl, fun r1 r2 => r1.append r2⟩
    · exact absurd rfl e
  · exact F.binds0 (ps := ["number", "step", "way"]) 2 (by simp) rfl fun D doc pm an cdv ct us ks h1 h2 => match us, ks, h1, h2 with | [_, _], [_], _, _ => ⟨_, _, _, _, _, _, rfl, rfl, rfl⟩
theorem all_mk {l : PySem.W.OpenLaw} {w : World} {K : PySem.W.Frag} {h : Heap} {mg : Str → Option Value} {fa : Addr} (X : K.In h) (G : h.Ns mainGlobals mg) (hfa : mg "law" = some (.ref fa))
    {C_Number : Addr}
    {f_is_whole : Addr} {od_is_whole an_is_whole : Option Addr} {sl_is_whole : Array (Option Value)} {oc_is_whole dc_is_whole pm_is_whole cd_is_whole ct_is_whole : Value}
    {kV_is_whole : Value}
    {f_Number_init : Addr} {od_Number_init an_Number_init : Option Addr} {sl_Number_init : Array (Option Value)} {oc_Number_init dc_Number_init pm_Number_init cd_Number_init ct_Number_init : Value}
    {kV_Number_init : Value}
    {Td_Number_init : Addr} {cT_Number_init : Value} {dT_Number_init : Option Addr} {nT_Number_init : Nat} {sT_Number_init : Array (Option Value)} {tk_Number_init : Tok}
    {f_Number_str : Addr} {od_Number_str an_Number_str : Option Addr} {sl_Number_str : Array (Option Value)} {oc_Number_str dc_Number_str pm_Number_str cd_Number_str ct_Number_str : Value}
    {kV_Number_str : Value}
    {f_Number_repr : Addr} {od_Number_repr an_Number_repr : Option Addr} {sl_Number_repr : Array (Option Value)} {oc_Number_repr dc_Number_repr pm_Number_repr cd_Number_repr ct_Number_repr : Value}
    {kV_Number_repr : Value}
    {f_Number_more : Addr} {od_Number_more an_Number_more : Option Addr} {sl_Number_more : Array (Option Value)} {oc_Number_more dc_Number_more pm_Number_more cd_Number_more ct_Number_more : Value}
    {kV_Number_more : Value}
    {f_Number_less : Addr} {od_Number_less an_Number_less : Option Addr} {sl_Number_less : Array (Option Value)} {oc_Number_less dc_Number_less pm_Number_less cd_Number_less ct_Number_less : Value}
    {kV_Number_less : Value}
    {f_Number_over : Addr} {od_Number_over an_Number_over : Option Addr} {sl_Number_over : Array (Option Value)} {oc_Number_over dc_Number_over pm_Number_over cd_Number_over ct_Number_over : Value}
    {kV_Number_over : Value}
    {f_Number_below : Addr} {od_Number_below an_Number_below : Option Addr} {sl_Number_below : Array (Option Value)} {oc_Number_below dc_Number_below pm_Number_below cd_Number_below ct_Number_below : Value}
    {kV_Number_below : Value}
    {f_Number_floor : Addr} {od_Number_floor an_Number_floor : Option Addr} {sl_Number_floor : Array (Option Value)} {oc_Number_floor dc_Number_floor pm_Number_floor cd_Number_floor ct_Number_floor : Value}
    {kV_Number_floor : Value}
    {f_total_of : Addr} {od_total_of an_total_of : Option Addr} {sl_total_of : Array (Option Value)} {oc_total_of dc_total_of pm_total_of cd_total_of ct_total_of : Value}
    {kV_total_of : Value}
    {f_sum_holds : Addr} {od_sum_holds an_sum_holds : Option Addr} {sl_sum_holds : Array (Option Value)} {oc_sum_holds dc_sum_holds pm_sum_holds cd_sum_holds ct_sum_holds : Value}
    {kV_sum_holds : Value}
    {f_is_told : Addr} {od_is_told an_is_told : Option Addr} {sl_is_told : Array (Option Value)} {oc_is_told dc_is_told pm_is_told cd_is_told ct_is_told : Value}
    {kV_is_told : Value}
    {f_is_put_so : Addr} {od_is_put_so an_is_put_so : Option Addr} {sl_is_put_so : Array (Option Value)} {oc_is_put_so dc_is_put_so pm_is_put_so cd_is_put_so ct_is_put_so : Value}
    {kV_is_put_so : Value}
    {f_is_rounded : Addr} {od_is_rounded an_is_rounded : Option Addr} {sl_is_rounded : Array (Option Value)} {oc_is_rounded dc_is_rounded pm_is_rounded cd_is_rounded ct_is_rounded : Value}
    {kV_is_rounded : Value}
    {f_round_paper : Addr} {od_round_paper an_round_paper : Option Addr} {sl_round_paper : Array (Option Value)} {oc_round_paper dc_round_paper pm_round_paper cd_round_paper ct_round_paper : Value}
    {Kd_round_paper : Addr} {tw_round_paper : Tok}
    {f_place_of : Addr} {od_place_of an_place_of : Option Addr} {sl_place_of : Array (Option Value)} {oc_place_of dc_place_of pm_place_of cd_place_of ct_place_of : Value}
    {kV_place_of : Value}
    {f_by_up : Addr} {od_by_up an_by_up : Option Addr} {sl_by_up : Array (Option Value)} {oc_by_up dc_by_up pm_by_up cd_by_up ct_by_up : Value}
    {kV_by_up : Value}
    {f_by_down : Addr} {od_by_down an_by_down : Option Addr} {sl_by_down : Array (Option Value)} {oc_by_down dc_by_down pm_by_down cd_by_down ct_by_down : Value}
    {kV_by_down : Value}
    {f_by_high : Addr} {od_by_high an_by_high : Option Addr} {sl_by_high : Array (Option Value)} {oc_by_high dc_by_high pm_by_high cd_by_high ct_by_high : Value}
    {kV_by_high : Value}
    {f_by_low : Addr} {od_by_low an_by_low : Option Addr} {sl_by_low : Array (Option Value)} {oc_by_low dc_by_low pm_by_low cd_by_low ct_by_low : Value}
    {kV_by_low : Value}
    {f_by_half_up : Addr} {od_by_half_up an_by_half_up : Option Addr} {sl_by_half_up : Array (Option Value)} {oc_by_half_up dc_by_half_up pm_by_half_up cd_by_half_up ct_by_half_up : Value}
    {kV_by_half_up : Value}
    {f_by_half_down : Addr} {od_by_half_down an_by_half_down : Option Addr} {sl_by_half_down : Array (Option Value)} {oc_by_half_down dc_by_half_down pm_by_half_down cd_by_half_down ct_by_half_down : Value}
    {kV_by_half_down : Value}
    {f_by_half_even : Addr} {od_by_half_even an_by_half_even : Option Addr} {sl_by_half_even : Array (Option Value)} {oc_by_half_even dc_by_half_even pm_by_half_even cd_by_half_even ct_by_half_even : Value}
    {kV_by_half_even : Value}
    {f_by_half_odd : Addr} {od_by_half_odd an_by_half_odd : Option Addr} {sl_by_half_odd : Array (Option Value)} {oc_by_half_odd dc_by_half_odd pm_by_half_odd cd_by_half_odd ct_by_half_odd : Value}
    {kV_by_half_odd : Value}
    {f_nearer : Addr} {od_nearer an_nearer : Option Addr} {sl_nearer : Array (Option Value)} {oc_nearer dc_nearer pm_nearer cd_nearer ct_nearer : Value}
    {kV_nearer : Value}
    {f_parts_rounded : Addr} {od_parts_rounded an_parts_rounded : Option Addr} {sl_parts_rounded : Array (Option Value)} {oc_parts_rounded dc_parts_rounded pm_parts_rounded cd_parts_rounded ct_parts_rounded : Value}
    {kV_parts_rounded : Value}
    {f_furthest_first : Addr} {od_furthest_first an_furthest_first : Option Addr} {sl_furthest_first : Array (Option Value)} {oc_furthest_first dc_furthest_first pm_furthest_first cd_furthest_first ct_furthest_first : Value}
    {kV_furthest_first : Value}
    {f_l_well : Addr} {od_l_well an_l_well : Option Addr} {sl_l_well : Array (Option Value)} {oc_l_well dc_l_well pm_l_well cd_l_well ct_l_well : Value}
    {kV_l_well : Value}
    {f_l_take : Addr} {od_l_take an_l_take : Option Addr} {sl_l_take : Array (Option Value)} {oc_l_take dc_l_take pm_l_take cd_l_take ct_l_take : Value}
    {kV_l_take : Value}
    {f_l_step : Addr} {od_l_step an_l_step : Option Addr} {sl_l_step : Array (Option Value)} {oc_l_step dc_l_step pm_l_step cd_l_step ct_l_step : Value}
    {kV_l_step : Value}
    {f_l_parts : Addr} {od_l_parts an_l_parts : Option Addr} {sl_l_parts : Array (Option Value)} {oc_l_parts dc_l_parts pm_l_parts cd_l_parts ct_l_parts : Value}
    {kV_l_parts : Value}
    {f_l_beyond : Addr} {od_l_beyond an_l_beyond : Option Addr} {sl_l_beyond : Array (Option Value)} {oc_l_beyond dc_l_beyond pm_l_beyond cd_l_beyond ct_l_beyond : Value}
    {kV_l_beyond : Value}
    {f_l_steps : Addr} {od_l_steps an_l_steps : Option Addr} {sl_l_steps : Array (Option Value)} {oc_l_steps dc_l_steps pm_l_steps cd_l_steps ct_l_steps : Value}
    {kV_l_steps : Value}
    {f_l_counts : Addr} {od_l_counts an_l_counts : Option Addr} {sl_l_counts : Array (Option Value)} {oc_l_counts dc_l_counts pm_l_counts cd_l_counts ct_l_counts : Value}
    {kV_l_counts : Value}
    {f_l_holds : Addr} {od_l_holds an_l_holds : Option Addr} {sl_l_holds : Array (Option Value)} {oc_l_holds dc_l_holds pm_l_holds cd_l_holds ct_l_holds : Value}
    {kV_l_holds : Value}
    {f_l_made : Addr} {od_l_made an_l_made : Option Addr} {sl_l_made : Array (Option Value)} {oc_l_made dc_l_made pm_l_made cd_l_made ct_l_made : Value}
    {kV_l_made : Value}
    {f_l_odd : Addr} {od_l_odd an_l_odd : Option Addr} {sl_l_odd : Array (Option Value)} {oc_l_odd dc_l_odd pm_l_odd cd_l_odd ct_l_odd : Value}
    {kV_l_odd : Value}
    {f_l_bent : Addr} {od_l_bent an_l_bent : Option Addr} {sl_l_bent : Array (Option Value)} {oc_l_bent dc_l_bent pm_l_bent cd_l_bent ct_l_bent : Value}
    {kV_l_bent : Value}
    {f_law : Addr} {od_law an_law : Option Addr} {sl_law : Array (Option Value)} {oc_law dc_law pm_law cd_law ct_law : Value}
    {kV_law : Value}
    {D_RULES : Addr} {es_RULES : Array DictEntry} {en_RULES : Nat}
    (aC_Number : PySem.W.nsIn K mainGlobals "Number" = some (some (.ref C_Number)))
    (pg_Number : PySem.W.plainGet K C_Number Str.empty = true)
    (hd_Number : PySem.W.hasDictIn K C_Number = true)
    (po_Number : PySem.W.plainOver K C_Number = true)
    (sa_Number : PySem.W.findIn K (.ref C_Number) "__setattr__" = some (some (.builtin "object.__setattr__")))
    (nf_Number_top : PySem.W.findIn K (.ref C_Number) "top" = some none)
    (nf_Number_bottom : PySem.W.findIn K (.ref C_Number) "bottom" = some none)
    (tc_Number : PySem.W.findIn K (.ref C_Number) "__class__" = some (some (.builtin "object.__class__")))
    (tg_Number : PySem.W.specialIn K (.builtin "object.__class__") "__get__" = some (some (.builtin "getset_descriptor.__get__")))
    (tt_Number : PySem.W.takesIn K (.builtin "object.__class__") = some true)
    (tm_Number : PySem.W.mroIn K C_Number (.type "object") = some true)
    (nn_Number : PySem.W.findIn K (.ref C_Number) "__ne__" = some (some (.builtin "object.__ne__")))
    (mi_Number : PySem.W.makesIn K C_Number = true)
    (kc_Number : PySem.W.keepIn K (.ref C_Number) = true)
    (a_is_whole : PySem.W.nsIn K mainGlobals "is_whole" = some (some (.ref f_is_whole)))
    (l_is_whole : K.lookup f_is_whole = some ⟨oc_is_whole, od_is_whole, .func (PySem.W.fnOf "is_whole" "is_whole" (defArgs s_is_whole) (defBody s_is_whole) (defScope s_is_whole) .none kV_is_whole dc_is_whole pm_is_whole an_is_whole cd_is_whole ct_is_whole), sl_is_whole⟩)
    (c_is_whole : PySem.W.codeIn K cd_is_whole "is_whole" = true)
    (k_is_whole : PySem.W.keepIn K (.ref f_is_whole) = true)
    (a_Number_init : PySem.W.findIn K (.ref C_Number) "__init__" = some (some (.ref f_Number_init)))
    (i_Number_init : PySem.W.isFn K (.ref f_Number_init) = true)
    (l_Number_init : K.lookup f_Number_init = some ⟨oc_Number_init, od_Number_init, .func (PySem.W.fnOf "__init__" "Number.__init__" (defArgs s_Number_init) (defBody s_Number_init) (defScope s_Number_init) (.ref Td_Number_init) kV_Number_init dc_Number_init pm_Number_init an_Number_init cd_Number_init ct_Number_init), sl_Number_init⟩)
    (c_Number_init : PySem.W.codeIn K cd_Number_init "Number.__init__" = true)
    (k_Number_init : PySem.W.keepIn K (.ref f_Number_init) = true)
    (T_Number_init : K.lookup Td_Number_init = some ⟨cT_Number_init, dT_Number_init, .seq #[.int 1 tk_Number_init] nT_Number_init, sT_Number_init⟩)
    (a_Number_str : PySem.W.findIn K (.ref C_Number) "__str__" = some (some (.ref f_Number_str)))
    (i_Number_str : PySem.W.isFn K (.ref f_Number_str) = true)
    (l_Number_str : K.lookup f_Number_str = some ⟨oc_Number_str, od_Number_str, .func (PySem.W.fnOf "__str__" "Number.__str__" (defArgs s_Number_str) (defBody s_Number_str) (defScope s_Number_str) .none kV_Number_str dc_Number_str pm_Number_str an_Number_str cd_Number_str ct_Number_str), sl_Number_str⟩)
    (c_Number_str : PySem.W.codeIn K cd_Number_str "Number.__str__" = true)
    (k_Number_str : PySem.W.keepIn K (.ref f_Number_str) = true)
    (a_Number_repr : PySem.W.findIn K (.ref C_Number) "__repr__" = some (some (.ref f_Number_repr)))
    (i_Number_repr : PySem.W.isFn K (.ref f_Number_repr) = true)
    (l_Number_repr : K.lookup f_Number_repr = some ⟨oc_Number_repr, od_Number_repr, .func (PySem.W.fnOf "__repr__" "Number.__repr__" (defArgs s_Number_repr) (defBody s_Number_repr) (defScope s_Number_repr) .none kV_Number_repr dc_Number_repr pm_Number_repr an_Number_repr cd_Number_repr ct_Number_repr), sl_Number_repr⟩)
    (c_Number_repr : PySem.W.codeIn K cd_Number_repr "Number.__repr__" = true)
    (k_Number_repr : PySem.W.keepIn K (.ref f_Number_repr) = true)
    (a_Number_more : PySem.W.findIn K (.ref C_Number) "more" = some (some (.ref f_Number_more)))
    (i_Number_more : PySem.W.isFn K (.ref f_Number_more) = true)
    (l_Number_more : K.lookup f_Number_more = some ⟨oc_Number_more, od_Number_more, .func (PySem.W.fnOf "more" "Number.more" (defArgs s_Number_more) (defBody s_Number_more) (defScope s_Number_more) .none kV_Number_more dc_Number_more pm_Number_more an_Number_more cd_Number_more ct_Number_more), sl_Number_more⟩)
    (c_Number_more : PySem.W.codeIn K cd_Number_more "Number.more" = true)
    (k_Number_more : PySem.W.keepIn K (.ref f_Number_more) = true)
    (a_Number_less : PySem.W.findIn K (.ref C_Number) "less" = some (some (.ref f_Number_less)))
    (i_Number_less : PySem.W.isFn K (.ref f_Number_less) = true)
    (l_Number_less : K.lookup f_Number_less = some ⟨oc_Number_less, od_Number_less, .func (PySem.W.fnOf "less" "Number.less" (defArgs s_Number_less) (defBody s_Number_less) (defScope s_Number_less) .none kV_Number_less dc_Number_less pm_Number_less an_Number_less cd_Number_less ct_Number_less), sl_Number_less⟩)
    (c_Number_less : PySem.W.codeIn K cd_Number_less "Number.less" = true)
    (k_Number_less : PySem.W.keepIn K (.ref f_Number_less) = true)
    (a_Number_over : PySem.W.findIn K (.ref C_Number) "over" = some (some (.ref f_Number_over)))
    (i_Number_over : PySem.W.isFn K (.ref f_Number_over) = true)
    (l_Number_over : K.lookup f_Number_over = some ⟨oc_Number_over, od_Number_over, .func (PySem.W.fnOf "over" "Number.over" (defArgs s_Number_over) (defBody s_Number_over) (defScope s_Number_over) .none kV_Number_over dc_Number_over pm_Number_over an_Number_over cd_Number_over ct_Number_over), sl_Number_over⟩)
    (c_Number_over : PySem.W.codeIn K cd_Number_over "Number.over" = true)
    (k_Number_over : PySem.W.keepIn K (.ref f_Number_over) = true)
    (a_Number_below : PySem.W.findIn K (.ref C_Number) "below" = some (some (.ref f_Number_below)))
    (i_Number_below : PySem.W.isFn K (.ref f_Number_below) = true)
    (l_Number_below : K.lookup f_Number_below = some ⟨oc_Number_below, od_Number_below, .func (PySem.W.fnOf "below" "Number.below" (defArgs s_Number_below) (defBody s_Number_below) (defScope s_Number_below) .none kV_Number_below dc_Number_below pm_Number_below an_Number_below cd_Number_below ct_Number_below), sl_Number_below⟩)
    (c_Number_below : PySem.W.codeIn K cd_Number_below "Number.below" = true)
    (k_Number_below : PySem.W.keepIn K (.ref f_Number_below) = true)
    (a_Number_floor : PySem.W.findIn K (.ref C_Number) "floor" = some (some (.ref f_Number_floor)))
    (i_Number_floor : PySem.W.isFn K (.ref f_Number_floor) = true)
    (l_Number_floor : K.lookup f_Number_floor = some ⟨oc_Number_floor, od_Number_floor, .func (PySem.W.fnOf "floor" "Number.floor" (defArgs s_Number_floor) (defBody s_Number_floor) (defScope s_Number_floor) .none kV_Number_floor dc_Number_floor pm_Number_floor an_Number_floor cd_Number_floor ct_Number_floor), sl_Number_floor⟩)
    (c_Number_floor : PySem.W.codeIn K cd_Number_floor "Number.floor" = true)
    (k_Number_floor : PySem.W.keepIn K (.ref f_Number_floor) = true)
    (a_total_of : PySem.W.nsIn K mainGlobals "total_of" = some (some (.ref f_total_of)))
    (l_total_of : K.lookup f_total_of = some ⟨oc_total_of, od_total_of, .func (PySem.W.fnOf "total_of" "total_of" (defArgs s_total_of) (defBody s_total_of) (defScope s_total_of) .none kV_total_of dc_total_of pm_total_of an_total_of cd_total_of ct_total_of), sl_total_of⟩)
    (c_total_of : PySem.W.codeIn K cd_total_of "total_of" = true)
    (k_total_of : PySem.W.keepIn K (.ref f_total_of) = true)
    (a_sum_holds : PySem.W.nsIn K mainGlobals "sum_holds" = some (some (.ref f_sum_holds)))
    (l_sum_holds : K.lookup f_sum_holds = some ⟨oc_sum_holds, od_sum_holds, .func (PySem.W.fnOf "sum_holds" "sum_holds" (defArgs s_sum_holds) (defBody s_sum_holds) (defScope s_sum_holds) .none kV_sum_holds dc_sum_holds pm_sum_holds an_sum_holds cd_sum_holds ct_sum_holds), sl_sum_holds⟩)
    (c_sum_holds : PySem.W.codeIn K cd_sum_holds "sum_holds" = true)
    (k_sum_holds : PySem.W.keepIn K (.ref f_sum_holds) = true)
    (a_is_told : PySem.W.nsIn K mainGlobals "_is_told" = some (some (.ref f_is_told)))
    (l_is_told : K.lookup f_is_told = some ⟨oc_is_told, od_is_told, .func (PySem.W.fnOf "_is_told" "_is_told" (defArgs s_is_told) (defBody s_is_told) (defScope s_is_told) .none kV_is_told dc_is_told pm_is_told an_is_told cd_is_told ct_is_told), sl_is_told⟩)
    (c_is_told : PySem.W.codeIn K cd_is_told "_is_told" = true)
    (k_is_told : PySem.W.keepIn K (.ref f_is_told) = true)
    (a_is_put_so : PySem.W.nsIn K mainGlobals "_is_put_so" = some (some (.ref f_is_put_so)))
    (l_is_put_so : K.lookup f_is_put_so = some ⟨oc_is_put_so, od_is_put_so, .func (PySem.W.fnOf "_is_put_so" "_is_put_so" (defArgs s_is_put_so) (defBody s_is_put_so) (defScope s_is_put_so) .none kV_is_put_so dc_is_put_so pm_is_put_so an_is_put_so cd_is_put_so ct_is_put_so), sl_is_put_so⟩)
    (c_is_put_so : PySem.W.codeIn K cd_is_put_so "_is_put_so" = true)
    (k_is_put_so : PySem.W.keepIn K (.ref f_is_put_so) = true)
    (a_is_rounded : PySem.W.nsIn K mainGlobals "_is_rounded" = some (some (.ref f_is_rounded)))
    (l_is_rounded : K.lookup f_is_rounded = some ⟨oc_is_rounded, od_is_rounded, .func (PySem.W.fnOf "_is_rounded" "_is_rounded" (defArgs s_is_rounded) (defBody s_is_rounded) (defScope s_is_rounded) .none kV_is_rounded dc_is_rounded pm_is_rounded an_is_rounded cd_is_rounded ct_is_rounded), sl_is_rounded⟩)
    (c_is_rounded : PySem.W.codeIn K cd_is_rounded "_is_rounded" = true)
    (k_is_rounded : PySem.W.keepIn K (.ref f_is_rounded) = true)
    (a_round_paper : PySem.W.nsIn K mainGlobals "round_paper" = some (some (.ref f_round_paper)))
    (l_round_paper : K.lookup f_round_paper = some ⟨oc_round_paper, od_round_paper, .func (PySem.W.fnOf "round_paper" "round_paper" (defArgs s_round_paper) (defBody s_round_paper) (defScope s_round_paper) .none (.ref Kd_round_paper) dc_round_paper pm_round_paper an_round_paper cd_round_paper ct_round_paper), sl_round_paper⟩)
    (c_round_paper : PySem.W.codeIn K cd_round_paper "round_paper" = true)
    (k_round_paper : PySem.W.keepIn K (.ref f_round_paper) = true)
    (W_round_paper : PySem.W.nsIn K Kd_round_paper "way" = some (some (.str "half even" tw_round_paper)))
    (a_place_of : PySem.W.nsIn K mainGlobals "place_of" = some (some (.ref f_place_of)))
    (l_place_of : K.lookup f_place_of = some ⟨oc_place_of, od_place_of, .func (PySem.W.fnOf "place_of" "place_of" (defArgs s_place_of) (defBody s_place_of) (defScope s_place_of) .none kV_place_of dc_place_of pm_place_of an_place_of cd_place_of ct_place_of), sl_place_of⟩)
    (c_place_of : PySem.W.codeIn K cd_place_of "place_of" = true)
    (k_place_of : PySem.W.keepIn K (.ref f_place_of) = true)
    (a_by_up : PySem.W.nsIn K mainGlobals "_by_up" = some (some (.ref f_by_up)))
    (l_by_up : K.lookup f_by_up = some ⟨oc_by_up, od_by_up, .func (PySem.W.fnOf "_by_up" "_by_up" (defArgs s_by_up) (defBody s_by_up) (defScope s_by_up) .none kV_by_up dc_by_up pm_by_up an_by_up cd_by_up ct_by_up), sl_by_up⟩)
    (c_by_up : PySem.W.codeIn K cd_by_up "_by_up" = true)
    (k_by_up : PySem.W.keepIn K (.ref f_by_up) = true)
    (a_by_down : PySem.W.nsIn K mainGlobals "_by_down" = some (some (.ref f_by_down)))
    (l_by_down : K.lookup f_by_down = some ⟨oc_by_down, od_by_down, .func (PySem.W.fnOf "_by_down" "_by_down" (defArgs s_by_down) (defBody s_by_down) (defScope s_by_down) .none kV_by_down dc_by_down pm_by_down an_by_down cd_by_down ct_by_down), sl_by_down⟩)
    (c_by_down : PySem.W.codeIn K cd_by_down "_by_down" = true)
    (k_by_down : PySem.W.keepIn K (.ref f_by_down) = true)
    (a_by_high : PySem.W.nsIn K mainGlobals "_by_high" = some (some (.ref f_by_high)))
    (l_by_high : K.lookup f_by_high = some ⟨oc_by_high, od_by_high, .func (PySem.W.fnOf "_by_high" "_by_high" (defArgs s_by_high) (defBody s_by_high) (defScope s_by_high) .none kV_by_high dc_by_high pm_by_high an_by_high cd_by_high ct_by_high), sl_by_high⟩)
    (c_by_high : PySem.W.codeIn K cd_by_high "_by_high" = true)
    (k_by_high : PySem.W.keepIn K (.ref f_by_high) = true)
    (a_by_low : PySem.W.nsIn K mainGlobals "_by_low" = some (some (.ref f_by_low)))
    (l_by_low : K.lookup f_by_low = some ⟨oc_by_low, od_by_low, .func (PySem.W.fnOf "_by_low" "_by_low" (defArgs s_by_low) (defBody s_by_low) (defScope s_by_low) .none kV_by_low dc_by_low pm_by_low an_by_low cd_by_low ct_by_low), sl_by_low⟩)
    (c_by_low : PySem.W.codeIn K cd_by_low "_by_low" = true)
    (k_by_low : PySem.W.keepIn K (.ref f_by_low) = true)
    (a_by_half_up : PySem.W.nsIn K mainGlobals "_by_half_up" = some (some (.ref f_by_half_up)))
    (l_by_half_up : K.lookup f_by_half_up = some ⟨oc_by_half_up, od_by_half_up, .func (PySem.W.fnOf "_by_half_up" "_by_half_up" (defArgs s_by_half_up) (defBody s_by_half_up) (defScope s_by_half_up) .none kV_by_half_up dc_by_half_up pm_by_half_up an_by_half_up cd_by_half_up ct_by_half_up), sl_by_half_up⟩)
    (c_by_half_up : PySem.W.codeIn K cd_by_half_up "_by_half_up" = true)
    (k_by_half_up : PySem.W.keepIn K (.ref f_by_half_up) = true)
    (a_by_half_down : PySem.W.nsIn K mainGlobals "_by_half_down" = some (some (.ref f_by_half_down)))
    (l_by_half_down : K.lookup f_by_half_down = some ⟨oc_by_half_down, od_by_half_down, .func (PySem.W.fnOf "_by_half_down" "_by_half_down" (defArgs s_by_half_down) (defBody s_by_half_down) (defScope s_by_half_down) .none kV_by_half_down dc_by_half_down pm_by_half_down an_by_half_down cd_by_half_down ct_by_half_down), sl_by_half_down⟩)
    (c_by_half_down : PySem.W.codeIn K cd_by_half_down "_by_half_down" = true)
    (k_by_half_down : PySem.W.keepIn K (.ref f_by_half_down) = true)
    (a_by_half_even : PySem.W.nsIn K mainGlobals "_by_half_even" = some (some (.ref f_by_half_even)))
    (l_by_half_even : K.lookup f_by_half_even = some ⟨oc_by_half_even, od_by_half_even, .func (PySem.W.fnOf "_by_half_even" "_by_half_even" (defArgs s_by_half_even) (defBody s_by_half_even) (defScope s_by_half_even) .none kV_by_half_even dc_by_half_even pm_by_half_even an_by_half_even cd_by_half_even ct_by_half_even), sl_by_half_even⟩)
    (c_by_half_even : PySem.W.codeIn K cd_by_half_even "_by_half_even" = true)
    (k_by_half_even : PySem.W.keepIn K (.ref f_by_half_even) = true)
    (a_by_half_odd : PySem.W.nsIn K mainGlobals "_by_half_odd" = some (some (.ref f_by_half_odd)))
    (l_by_half_odd : K.lookup f_by_half_odd = some ⟨oc_by_half_odd, od_by_half_odd, .func (PySem.W.fnOf "_by_half_odd" "_by_half_odd" (defArgs s_by_half_odd) (defBody s_by_half_odd) (defScope s_by_half_odd) .none kV_by_half_odd dc_by_half_odd pm_by_half_odd an_by_half_odd cd_by_half_odd ct_by_half_odd), sl_by_half_odd⟩)
    (c_by_half_odd : PySem.W.codeIn K cd_by_half_odd "_by_half_odd" = true)
    (k_by_half_odd : PySem.W.keepIn K (.ref f_by_half_odd) = true)
    (a_nearer : PySem.W.nsIn K mainGlobals "_nearer" = some (some (.ref f_nearer)))
    (l_nearer : K.lookup f_nearer = some ⟨oc_nearer, od_nearer, .func (PySem.W.fnOf "_nearer" "_nearer" (defArgs s_nearer) (defBody s_nearer) (defScope s_nearer) .none kV_nearer dc_nearer pm_nearer an_nearer cd_nearer ct_nearer), sl_nearer⟩)
    (c_nearer : PySem.W.codeIn K cd_nearer "_nearer" = true)
    (k_nearer : PySem.W.keepIn K (.ref f_nearer) = true)
    (a_parts_rounded : PySem.W.nsIn K mainGlobals "parts_rounded" = some (some (.ref f_parts_rounded)))
    (l_parts_rounded : K.lookup f_parts_rounded = some ⟨oc_parts_rounded, od_parts_rounded, .func (PySem.W.fnOf "parts_rounded" "parts_rounded" (defArgs s_parts_rounded) (defBody s_parts_rounded) (defScope s_parts_rounded) .none kV_parts_rounded dc_parts_rounded pm_parts_rounded an_parts_rounded cd_parts_rounded ct_parts_rounded), sl_parts_rounded⟩)
    (c_parts_rounded : PySem.W.codeIn K cd_parts_rounded "parts_rounded" = true)
    (k_parts_rounded : PySem.W.keepIn K (.ref f_parts_rounded) = true)
    (a_furthest_first : PySem.W.nsIn K mainGlobals "_furthest_first" = some (some (.ref f_furthest_first)))
    (l_furthest_first : K.lookup f_furthest_first = some ⟨oc_furthest_first, od_furthest_first, .func (PySem.W.fnOf "_furthest_first" "_furthest_first" (defArgs s_furthest_first) (defBody s_furthest_first) (defScope s_furthest_first) .none kV_furthest_first dc_furthest_first pm_furthest_first an_furthest_first cd_furthest_first ct_furthest_first), sl_furthest_first⟩)
    (c_furthest_first : PySem.W.codeIn K cd_furthest_first "_furthest_first" = true)
    (k_furthest_first : PySem.W.keepIn K (.ref f_furthest_first) = true)
    (a_l_well : PySem.W.nsIn K mainGlobals "_law_well" = some (some (.ref f_l_well)))
    (l_l_well : K.lookup f_l_well = some ⟨oc_l_well, od_l_well, .func (PySem.W.fnOf "_law_well" "_law_well" (defArgs s_l_well) (defBody s_l_well) (defScope s_l_well) .none kV_l_well dc_l_well pm_l_well an_l_well cd_l_well ct_l_well), sl_l_well⟩)
    (c_l_well : PySem.W.codeIn K cd_l_well "_law_well" = true)
    (k_l_well : PySem.W.keepIn K (.ref f_l_well) = true)
    (a_l_take : PySem.W.nsIn K mainGlobals "_law_take" = some (some (.ref f_l_take)))
    (l_l_take : K.lookup f_l_take = some ⟨oc_l_take, od_l_take, .func (PySem.W.fnOf "_law_take" "_law_take" (defArgs s_l_take) (defBody s_l_take) (defScope s_l_take) .none kV_l_take dc_l_take pm_l_take an_l_take cd_l_take ct_l_take), sl_l_take⟩)
    (c_l_take : PySem.W.codeIn K cd_l_take "_law_take" = true)
    (k_l_take : PySem.W.keepIn K (.ref f_l_take) = true)
    (a_l_step : PySem.W.nsIn K mainGlobals "_law_step" = some (some (.ref f_l_step)))
    (l_l_step : K.lookup f_l_step = some ⟨oc_l_step, od_l_step, .func (PySem.W.fnOf "_law_step" "_law_step" (defArgs s_l_step) (defBody s_l_step) (defScope s_l_step) .none kV_l_step dc_l_step pm_l_step an_l_step cd_l_step ct_l_step), sl_l_step⟩)
    (c_l_step : PySem.W.codeIn K cd_l_step "_law_step" = true)
    (k_l_step : PySem.W.keepIn K (.ref f_l_step) = true)
    (a_l_parts : PySem.W.nsIn K mainGlobals "_law_parts" = some (some (.ref f_l_parts)))
    (l_l_parts : K.lookup f_l_parts = some ⟨oc_l_parts, od_l_parts, .func (PySem.W.fnOf "_law_parts" "_law_parts" (defArgs s_l_parts) (defBody s_l_parts) (defScope s_l_parts) .none kV_l_parts dc_l_parts pm_l_parts an_l_parts cd_l_parts ct_l_parts), sl_l_parts⟩)
    (c_l_parts : PySem.W.codeIn K cd_l_parts "_law_parts" = true)
    (k_l_parts : PySem.W.keepIn K (.ref f_l_parts) = true)
    (a_l_beyond : PySem.W.nsIn K mainGlobals "_law_beyond" = some (some (.ref f_l_beyond)))
    (l_l_beyond : K.lookup f_l_beyond = some ⟨oc_l_beyond, od_l_beyond, .func (PySem.W.fnOf "_law_beyond" "_law_beyond" (defArgs s_l_beyond) (defBody s_l_beyond) (defScope s_l_beyond) .none kV_l_beyond dc_l_beyond pm_l_beyond an_l_beyond cd_l_beyond ct_l_beyond), sl_l_beyond⟩)
    (c_l_beyond : PySem.W.codeIn K cd_l_beyond "_law_beyond" = true)
    (k_l_beyond : PySem.W.keepIn K (.ref f_l_beyond) = true)
    (a_l_steps : PySem.W.nsIn K mainGlobals "_law_steps" = some (some (.ref f_l_steps)))
    (l_l_steps : K.lookup f_l_steps = some ⟨oc_l_steps, od_l_steps, .func (PySem.W.fnOf "_law_steps" "_law_steps" (defArgs s_l_steps) (defBody s_l_steps) (defScope s_l_steps) .none kV_l_steps dc_l_steps pm_l_steps an_l_steps cd_l_steps ct_l_steps), sl_l_steps⟩)
    (c_l_steps : PySem.W.codeIn K cd_l_steps "_law_steps" = true)
    (k_l_steps : PySem.W.keepIn K (.ref f_l_steps) = true)
    (a_l_counts : PySem.W.nsIn K mainGlobals "_law_counts" = some (some (.ref f_l_counts)))
    (l_l_counts : K.lookup f_l_counts = some ⟨oc_l_counts, od_l_counts, .func (PySem.W.fnOf "_law_counts" "_law_counts" (defArgs s_l_counts) (defBody s_l_counts) (defScope s_l_counts) .none kV_l_counts dc_l_counts pm_l_counts an_l_counts cd_l_counts ct_l_counts), sl_l_counts⟩)
    (c_l_counts : PySem.W.codeIn K cd_l_counts "_law_counts" = true)
    (k_l_counts : PySem.W.keepIn K (.ref f_l_counts) = true)
    (a_l_holds : PySem.W.nsIn K mainGlobals "_law_holds" = some (some (.ref f_l_holds)))
    (l_l_holds : K.lookup f_l_holds = some ⟨oc_l_holds, od_l_holds, .func (PySem.W.fnOf "_law_holds" "_law_holds" (defArgs s_l_holds) (defBody s_l_holds) (defScope s_l_holds) .none kV_l_holds dc_l_holds pm_l_holds an_l_holds cd_l_holds ct_l_holds), sl_l_holds⟩)
    (c_l_holds : PySem.W.codeIn K cd_l_holds "_law_holds" = true)
    (k_l_holds : PySem.W.keepIn K (.ref f_l_holds) = true)
    (a_l_made : PySem.W.nsIn K mainGlobals "_law_made" = some (some (.ref f_l_made)))
    (l_l_made : K.lookup f_l_made = some ⟨oc_l_made, od_l_made, .func (PySem.W.fnOf "_law_made" "_law_made" (defArgs s_l_made) (defBody s_l_made) (defScope s_l_made) .none kV_l_made dc_l_made pm_l_made an_l_made cd_l_made ct_l_made), sl_l_made⟩)
    (c_l_made : PySem.W.codeIn K cd_l_made "_law_made" = true)
    (k_l_made : PySem.W.keepIn K (.ref f_l_made) = true)
    (a_l_odd : PySem.W.nsIn K mainGlobals "_law_odd" = some (some (.ref f_l_odd)))
    (l_l_odd : K.lookup f_l_odd = some ⟨oc_l_odd, od_l_odd, .func (PySem.W.fnOf "_law_odd" "_law_odd" (defArgs s_l_odd) (defBody s_l_odd) (defScope s_l_odd) .none kV_l_odd dc_l_odd pm_l_odd an_l_odd cd_l_odd ct_l_odd), sl_l_odd⟩)
    (c_l_odd : PySem.W.codeIn K cd_l_odd "_law_odd" = true)
    (k_l_odd : PySem.W.keepIn K (.ref f_l_odd) = true)
    (a_l_bent : PySem.W.nsIn K mainGlobals "_law_bent" = some (some (.ref f_l_bent)))
    (l_l_bent : K.lookup f_l_bent = some ⟨oc_l_bent, od_l_bent, .func (PySem.W.fnOf "_law_bent" "_law_bent" (defArgs s_l_bent) (defBody s_l_bent) (defScope s_l_bent) .none kV_l_bent dc_l_bent pm_l_bent an_l_bent cd_l_bent ct_l_bent), sl_l_bent⟩)
    (c_l_bent : PySem.W.codeIn K cd_l_bent "_law_bent" = true)
    (k_l_bent : PySem.W.keepIn K (.ref f_l_bent) = true)
    (a_law : PySem.W.nsIn K mainGlobals "law" = some (some (.ref f_law)))
    (l_law : K.lookup f_law = some ⟨oc_law, od_law, .func (PySem.W.fnOf "law" "law" (defArgs s_law) (defBody s_law) (defScope s_law) .none kV_law dc_law pm_law an_law cd_law ct_law), sl_law⟩)
    (c_law : PySem.W.codeIn K cd_law "law" = true)
    (k_law : PySem.W.keepIn K (.ref f_law) = true)
    (nk_tuple : PySem.W.subIn K (.ref C_Number) (.type "tuple") = some false)
    (nk_int : PySem.W.subIn K (.ref C_Number) (.type "int") = some false)
    (nk_bool : PySem.W.subIn K (.ref C_Number) (.type "bool") = some false)
    (ic_N : PySem.W.isClsIn K C_Number = true)
    (tc_N : PySem.W.typeIn K (.ref C_Number) = some (.type "type"))
    (a_gcd : PySem.W.nsIn K mainGlobals "gcd" = some (some (.builtin "math.gcd")))
    (a_lcm : PySem.W.nsIn K mainGlobals "lcm" = some (some (.builtin "math.lcm")))
    (z_range : PySem.W.nsIn K mainGlobals "range" = some none)
    (z_isinstance : PySem.W.nsIn K mainGlobals "isinstance" = some none)
    (z_str : PySem.W.nsIn K mainGlobals "str" = some none)
    (z_int : PySem.W.nsIn K mainGlobals "int" = some none)
    (z_list : PySem.W.nsIn K mainGlobals "list" = some none)
    (z_len : PySem.W.nsIn K mainGlobals "len" = some none)
    (z_abs : PySem.W.nsIn K mainGlobals "abs" = some none)
    (z_max : PySem.W.nsIn K mainGlobals "max" = some none)
    (z_bool : PySem.W.nsIn K mainGlobals "bool" = some none)
    (z_repr : PySem.W.nsIn K mainGlobals "repr" = some none)
    (z_tuple : PySem.W.nsIn K mainGlobals "tuple" = some none)
    (z_all : PySem.W.nsIn K mainGlobals "all" = some none)
    (z_sum : PySem.W.nsIn K mainGlobals "sum" = some none)
    (z_sorted : PySem.W.nsIn K mainGlobals "sorted" = some none)
    (z_zip : PySem.W.nsIn K mainGlobals "zip" = some none)
    (z_enumerate : PySem.W.nsIn K mainGlobals "enumerate" = some none)
    (a_RULES : PySem.W.nsIn K mainGlobals "RULES" = some (some (.ref D_RULES)))
    (l_RULES : K.lookup D_RULES = some ⟨.type "dict", none, .dict es_RULES en_RULES, #[]⟩)
    (k_RULES : PySem.W.KeysLit w.params es_RULES.toList)
    (r_by_up : PySem.W.nsIn K D_RULES "up" = some (some (.ref f_by_up)))
    (r_by_down : PySem.W.nsIn K D_RULES "down" = some (some (.ref f_by_down)))
    (r_by_high : PySem.W.nsIn K D_RULES "high" = some (some (.ref f_by_high)))
    (r_by_low : PySem.W.nsIn K D_RULES "low" = some (some (.ref f_by_low)))
    (r_by_half_up : PySem.W.nsIn K D_RULES "half up" = some (some (.ref f_by_half_up)))
    (r_by_half_down : PySem.W.nsIn K D_RULES "half down" = some (some (.ref f_by_half_down)))
    (r_by_half_even : PySem.W.nsIn K D_RULES "half even" = some (some (.ref f_by_half_even)))
    (r_by_half_odd : PySem.W.nsIn K D_RULES "half odd" = some (some (.ref f_by_half_odd)))
    : ∃ fd : FuncData, (∀ (s : Shared) (v : Value), BindsTo s fd ⟨[v], []⟩ [("_law_script", v)]) ∧ ∀ base : Heap, K.In base → base.Ns mainGlobals mg → FnG l.prog w K mg base 14 fa fd ["_law_script"] (spLaw K) := by
  have e := hfa.symm.trans (PySem.W.mg_of X G a_law)
  cases e
  have F_is_whole := fun_mk (st := s_is_whole) l_is_whole c_is_whole k_is_whole
  have b_is_whole := F_is_whole.binds (ps := ["thing"]) fun _ _ _ _ _ _ us hl => match us, hl with | [_], _ => rfl
  have F_Number_init : FunD K "__init__" "Number.__init__" (defArgs s_Number_init) (defBody s_Number_init) (defScope s_Number_init) [V.int 1] [] f_Number_init _ := ⟨⟨_, _, _, _, _, _, _, _, _, _, rfl, l_Number_init, c_Number_init, .inr ⟨by simp, Td_Number_init, _, _, _, rfl, T_Number_init, rfl, .cons ⟨_, rfl⟩ .nil⟩, .inl rfl⟩, k_Number_init⟩
  obtain ⟨b_Number_init2, ds_Number_init1, d_Number_init1, b_Number_init1⟩ := bi_Number_init F_Number_init
  have F_Number_str := fun_mk (st := s_Number_str) l_Number_str c_Number_str k_Number_str
  have b_Number_str := F_Number_str.binds (ps := ["self"]) fun _ _ _ _ _ _ us hl => match us, hl with | [_], _ => rfl
  have F_Number_repr := fun_mk (st := s_Number_repr) l_Number_repr c_Number_repr k_Number_repr
  have b_Number_repr := F_Number_repr.binds (ps := ["self"]) fun _ _ _ _ _ _ us hl => match us, hl with | [_], _ => rfl
  have F_Number_more := fun_mk (st := s_Number_more) l_Number_more c_Number_more k_Number_more
  have b_Number_more := F_Number_more.binds (ps := ["self", "other"]) fun _ _ _ _ _ _ us hl => match us, hl with | [_, _], _ => rfl
  have F_Number_less := fun_mk (st := s_Number_less) l_Number_less c_Number_less k_Number_less
  have b_Number_less := F_Number_less.binds (ps := ["self", "other"]) fun _ _ _ _ _ _ us hl => match us, hl with | [_, _], _ => rfl
  have F_Number_over := fun_mk (st := s_Number_over) l_Number_over c_Number_over k_Number_over
  have b_Number_over := F_Number_over.binds (ps := ["self", "other"]) fun _ _ _ _ _ _ us hl => match us, hl with | [_, _], _ => rfl
  have F_Number_below := fun_mk (st := s_Number_below) l_Number_below c_Number_below k_Number_below
  have b_Number_below := F_Number_below.binds (ps := ["self", "other"]) fun _ _ _ _ _ _ us hl => match us, hl with | [_, _], _ => rfl
  have F_Number_floor := fun_mk (st := s_Number_floor) l_Number_floor c_Number_floor k_Number_floor
  have b_Number_floor := F_Number_floor.binds (ps := ["self"]) fun _ _ _ _ _ _ us hl => match us, hl with | [_], _ => rfl
  have F_total_of := fun_mk (st := s_total_of) l_total_of c_total_of k_total_of
  have b_total_of := F_total_of.binds (ps := ["numbers"]) fun _ _ _ _ _ _ us hl => match us, hl with | [_], _ => rfl
  have F_sum_holds := fun_mk (st := s_sum_holds) l_sum_holds c_sum_holds k_sum_holds
  have b_sum_holds := F_sum_holds.binds (ps := ["parts", "step", "thing"]) fun _ _ _ _ _ _ us hl => match us, hl with | [_, _, _], _ => rfl
  have F_is_told := fun_mk (st := s_is_told) l_is_told c_is_told k_is_told
  have b_is_told := F_is_told.binds (ps := ["thing", "many"]) fun _ _ _ _ _ _ us hl => match us, hl with | [_, _], _ => rfl
  have F_is_put_so := fun_mk (st := s_is_put_so) l_is_put_so c_is_put_so k_is_put_so
  have b_is_put_so := F_is_put_so.binds (ps := ["steps", "count", "paper"]) fun _ _ _ _ _ _ us hl => match us, hl with | [_, _, _], _ => rfl
  have F_is_rounded := fun_mk (st := s_is_rounded) l_is_rounded c_is_rounded k_is_rounded
  have b_is_rounded := F_is_rounded.binds (ps := ["steps", "total"]) fun _ _ _ _ _ _ us hl => match us, hl with | [_, _], _ => rfl
  have F_round_paper : FunD K "round_paper" "round_paper" (defArgs s_round_paper) (defBody s_round_paper) (defScope s_round_paper) [] [(("way" : Str), V.str "half even")] f_round_paper _ := ⟨⟨_, _, _, _, _, _, _, _, _, _, rfl, l_round_paper, c_round_paper, .inl ⟨rfl, rfl⟩, .inr ⟨Kd_round_paper, rfl, fun q hq => by cases List.mem_singleton.mp hq; exact ⟨_, W_round_paper, ⟨_, rfl⟩⟩⟩⟩, k_round_paper⟩
  obtain ⟨kb_round_paper, ds_round_paper, d_round_paper, b_round_paper⟩ := bi_round_paper F_round_paper
  have F_place_of := fun_mk (st := s_place_of) l_place_of c_place_of k_place_of
  have b_place_of := F_place_of.binds (ps := ["number", "step"]) fun _ _ _ _ _ _ us hl => match us, hl with | [_, _], _ => rfl
  have F_by_up := fun_mk (st := s_by_up) l_by_up c_by_up k_by_up
  have b_by_up := F_by_up.binds (ps := ["low", "part"]) fun _ _ _ _ _ _ us hl => match us, hl with | [_, _], _ => rfl
  have F_by_down := fun_mk (st := s_by_down) l_by_down c_by_down k_by_down
  have b_by_down := F_by_down.binds (ps := ["low", "part"]) fun _ _ _ _ _ _ us hl => match us, hl with | [_, _], _ => rfl
  have F_by_high := fun_mk (st := s_by_high) l_by_high c_by_high k_by_high
  have b_by_high := F_by_high.binds (ps := ["low", "part"]) fun _ _ _ _ _ _ us hl => match us, hl with | [_, _], _ => rfl
  have F_by_low := fun_mk (st := s_by_low) l_by_low c_by_low k_by_low
  have b_by_low := F_by_low.binds (ps := ["low", "part"]) fun _ _ _ _ _ _ us hl => match us, hl with | [_, _], _ => rfl
  have F_by_half_up := fun_mk (st := s_by_half_up) l_by_half_up c_by_half_up k_by_half_up
  have b_by_half_up := F_by_half_up.binds (ps := ["low", "part"]) fun _ _ _ _ _ _ us hl => match us, hl with | [_, _], _ => rfl
  have F_by_half_down := fun_mk (st := s_by_half_down) l_by_half_down c_by_half_down k_by_half_down
  have b_by_half_down := F_by_half_down.binds (ps := ["low", "part"]) fun _ _ _ _ _ _ us hl => match us, hl with | [_, _], _ => rfl
  have F_by_half_even := fun_mk (st := s_by_half_even) l_by_half_even c_by_half_even k_by_half_even
  have b_by_half_even := F_by_half_even.binds (ps := ["low", "part"]) fun _ _ _ _ _ _ us hl => match us, hl with | [_, _], _ => rfl
  have F_by_half_odd := fun_mk (st := s_by_half_odd) l_by_half_odd c_by_half_odd k_by_half_odd
  have b_by_half_odd := F_by_half_odd.binds (ps := ["low", "part"]) fun _ _ _ _ _ _ us hl => match us, hl with | [_, _], _ => rfl
  have F_nearer := fun_mk (st := s_nearer) l_nearer c_nearer k_nearer
  have b_nearer := F_nearer.binds (ps := ["part", "at_half"]) fun _ _ _ _ _ _ us hl => match us, hl with | [_, _], _ => rfl
  have F_parts_rounded := fun_mk (st := s_parts_rounded) l_parts_rounded c_parts_rounded k_parts_rounded
  have b_parts_rounded := F_parts_rounded.binds (ps := ["parts", "step"]) fun _ _ _ _ _ _ us hl => match us, hl with | [_, _], _ => rfl
  have F_furthest_first := fun_mk (st := s_furthest_first) l_furthest_first c_furthest_first k_furthest_first
  have b_furthest_first := F_furthest_first.binds (ps := ["beyond"]) fun _ _ _ _ _ _ us hl => match us, hl with | [_], _ => rfl
  have F_l_well := fun_mk (st := s_l_well) l_l_well c_l_well k_l_well
  have b_l_well := F_l_well.binds (ps := ["_law_script", "_law_k"]) fun _ _ _ _ _ _ us hl => match us, hl with | [_, _], _ => rfl
  have F_l_take := fun_mk (st := s_l_take) l_l_take c_l_take k_l_take
  have b_l_take := F_l_take.binds (ps := ["_law_well_here", "_law_top"]) fun _ _ _ _ _ _ us hl => match us, hl with | [_, _], _ => rfl
  have F_l_step := fun_mk (st := s_l_step) l_l_step c_l_step k_l_step
  have b_l_step := F_l_step.binds (ps := ["_law_well_here"]) fun _ _ _ _ _ _ us hl => match us, hl with | [_], _ => rfl
  have F_l_parts := fun_mk (st := s_l_parts) l_l_parts c_l_parts k_l_parts
  have b_l_parts := F_l_parts.binds (ps := ["_law_well_here", "_law_by", "_law_most"]) fun _ _ _ _ _ _ us hl => match us, hl with | [_, _, _], _ => rfl
  have F_l_beyond := fun_mk (st := s_l_beyond) l_l_beyond c_l_beyond k_l_beyond
  have b_l_beyond := F_l_beyond.binds (ps := ["_law_parts_here", "_law_by"]) fun _ _ _ _ _ _ us hl => match us, hl with | [_, _], _ => rfl
  have F_l_steps := fun_mk (st := s_l_steps) l_l_steps c_l_steps k_l_steps
  have b_l_steps := F_l_steps.binds (ps := ["_law_parts_here", "_law_by"]) fun _ _ _ _ _ _ us hl => match us, hl with | [_, _], _ => rfl
  have F_l_counts := fun_mk (st := s_l_counts) l_l_counts c_l_counts k_l_counts
  have b_l_counts := F_l_counts.binds (ps := ["_law_parts_here", "_law_by"]) fun _ _ _ _ _ _ us hl => match us, hl with | [_, _], _ => rfl
  have F_l_holds := fun_mk (st := s_l_holds) l_l_holds c_l_holds k_l_holds
  have b_l_holds := F_l_holds.binds (ps := ["_law_parts_here", "_law_by", "_law_thing"]) fun _ _ _ _ _ _ us hl => match us, hl with | [_, _, _], _ => rfl
  have F_l_made := fun_mk (st := s_l_made) l_l_made c_l_made k_l_made
  have b_l_made := F_l_made.binds (ps := ["_law_parts_here"]) fun _ _ _ _ _ _ us hl => match us, hl with | [_], _ => rfl
  have F_l_odd := fun_mk (st := s_l_odd) l_l_odd c_l_odd k_l_odd
  have b_l_odd := F_l_odd.binds (ps := ["_law_well_here", "_law_thing"]) fun _ _ _ _ _ _ us hl => match us, hl with | [_, _], _ => rfl
  have F_l_bent := fun_mk (st := s_l_bent) l_l_bent c_l_bent k_l_bent
  have b_l_bent := F_l_bent.binds (ps := ["_law_well_here", "_law_thing", "_law_deep"]) fun _ _ _ _ _ _ us hl => match us, hl with | [_, _, _], _ => rfl
  have F_law := fun_mk (st := s_law) l_law c_law k_law
  have b_law := F_law.binds (ps := ["_law_script"]) fun _ _ _ _ _ _ us hl => match us, hl with | [_], _ => rfl
  exact ⟨_, fun s v => .of_eq rfl, fun base _ _ => okG_law (w := w) (K := K) (mg := mg) {
    C_Number := C_Number,
    m_Number := PySem.W.mg_of X G aC_Number,
    c_Number := ⟨pg_Number, hd_Number, po_Number, sa_Number⟩,
    n_Number_top := nf_Number_top,
    n_Number_bottom := nf_Number_bottom,
    ty_Number_c := tc_Number,
    ty_Number_g := tg_Number,
    ty_Number_t := tt_Number,
    ty_Number_m := tm_Number,
    ty_Number_k := kit_self,
    ne_Number := nn_Number,
    m_is_whole := PySem.W.mg_of X G a_is_whole,
    f_is_whole := f_is_whole,
    fd_is_whole := _,
    F_is_whole := F_is_whole,
    b_is_whole := b_is_whole,
    f_Number_init := f_Number_init,
    fd_Number_init := _,
    F_Number_init := F_Number_init,
    mk_Number := ⟨mi_Number, a_Number_init, i_Number_init, kc_Number⟩,
    b_Number_init2 := b_Number_init2,
    ds_Number_init1 := ds_Number_init1,
    d_Number_init1 := d_Number_init1,
    b_Number_init1 := b_Number_init1,
    f_Number_str := f_Number_str,
    fd_Number_str := _,
    F_Number_str := F_Number_str,
    me_Number_str := ⟨a_Number_str, i_Number_str, k_Number_str⟩,
    b_Number_str := b_Number_str,
    f_Number_repr := f_Number_repr,
    fd_Number_repr := _,
    F_Number_repr := F_Number_repr,
    me_Number_repr := ⟨a_Number_repr, i_Number_repr, k_Number_repr⟩,
    b_Number_repr := b_Number_repr,
    f_Number_more := f_Number_more,
    fd_Number_more := _,
    F_Number_more := F_Number_more,
    me_Number_more := ⟨a_Number_more, i_Number_more, k_Number_more⟩,
    b_Number_more := b_Number_more,
    f_Number_less := f_Number_less,
    fd_Number_less := _,
    F_Number_less := F_Number_less,
    me_Number_less := ⟨a_Number_less, i_Number_less, k_Number_less⟩,
    b_Number_less := b_Number_less,
    f_Number_over := f_Number_over,
    fd_Number_over := _,
    F_Number_over := F_Number_over,
    me_Number_over := ⟨a_Number_over, i_Number_over, k_Number_over⟩,
    b_Number_over := b_Number_over,
    f_Number_below := f_Number_below,
    fd_Number_below := _,
    F_Number_below := F_Number_below,
    me_Number_below := ⟨a_Number_below, i_Number_below, k_Number_below⟩,
    b_Number_below := b_Number_below,
    f_Number_floor := f_Number_floor,
    fd_Number_floor := _,
    F_Number_floor := F_Number_floor,
    me_Number_floor := ⟨a_Number_floor, i_Number_floor, k_Number_floor⟩,
    b_Number_floor := b_Number_floor,
    m_total_of := PySem.W.mg_of X G a_total_of,
    f_total_of := f_total_of,
    fd_total_of := _,
    F_total_of := F_total_of,
    b_total_of := b_total_of,
    m_sum_holds := PySem.W.mg_of X G a_sum_holds,
    f_sum_holds := f_sum_holds,
    fd_sum_holds := _,
    F_sum_holds := F_sum_holds,
    b_sum_holds := b_sum_holds,
    m_is_told := PySem.W.mg_of X G a_is_told,
    f_is_told := f_is_told,
    fd_is_told := _,
    F_is_told := F_is_told,
    b_is_told := b_is_told,
    m_is_put_so := PySem.W.mg_of X G a_is_put_so,
    f_is_put_so := f_is_put_so,
    fd_is_put_so := _,
    F_is_put_so := F_is_put_so,
    b_is_put_so := b_is_put_so,
    m_is_rounded := PySem.W.mg_of X G a_is_rounded,
    f_is_rounded := f_is_rounded,
    fd_is_rounded := _,
    F_is_rounded := F_is_rounded,
    b_is_rounded := b_is_rounded,
    m_round_paper := PySem.W.mg_of X G a_round_paper,
    f_round_paper := f_round_paper,
    fd_round_paper := _,
    F_round_paper := F_round_paper,
    kb_round_paper := kb_round_paper,
    ds_round_paper := ds_round_paper,
    d_round_paper := d_round_paper,
    b_round_paper := b_round_paper,
    m_place_of := PySem.W.mg_of X G a_place_of,
    f_place_of := f_place_of,
    fd_place_of := _,
    F_place_of := F_place_of,
    b_place_of := b_place_of,
    m_by_up := PySem.W.mg_of X G a_by_up,
    f_by_up := f_by_up,
    fd_by_up := _,
    F_by_up := F_by_up,
    b_by_up := b_by_up,
    m_by_down := PySem.W.mg_of X G a_by_down,
    f_by_down := f_by_down,
    fd_by_down := _,
    F_by_down := F_by_down,
    b_by_down := b_by_down,
    m_by_high := PySem.W.mg_of X G a_by_high,
    f_by_high := f_by_high,
    fd_by_high := _,
    F_by_high := F_by_high,
    b_by_high := b_by_high,
    m_by_low := PySem.W.mg_of X G a_by_low,
    f_by_low := f_by_low,
    fd_by_low := _,
    F_by_low := F_by_low,
    b_by_low := b_by_low,
    m_by_half_up := PySem.W.mg_of X G a_by_half_up,
    f_by_half_up := f_by_half_up,
    fd_by_half_up := _,
    F_by_half_up := F_by_half_up,
    b_by_half_up := b_by_half_up,
    m_by_half_down := PySem.W.mg_of X G a_by_half_down,
    f_by_half_down := f_by_half_down,
    fd_by_half_down := _,
    F_by_half_down := F_by_half_down,
    b_by_half_down := b_by_half_down,
    m_by_half_even := PySem.W.mg_of X G a_by_half_even,
    f_by_half_even := f_by_half_even,
    fd_by_half_even := _,
    F_by_half_even := F_by_half_even,
    b_by_half_even := b_by_half_even,
    m_by_half_odd := PySem.W.mg_of X G a_by_half_odd,
    f_by_half_odd := f_by_half_odd,
    fd_by_half_odd := _,
    F_by_half_odd := F_by_half_odd,
    b_by_half_odd := b_by_half_odd,
    m_nearer := PySem.W.mg_of X G a_nearer,
    f_nearer := f_nearer,
    fd_nearer := _,
    F_nearer := F_nearer,
    b_nearer := b_nearer,
    m_parts_rounded := PySem.W.mg_of X G a_parts_rounded,
    f_parts_rounded := f_parts_rounded,
    fd_parts_rounded := _,
    F_parts_rounded := F_parts_rounded,
    b_parts_rounded := b_parts_rounded,
    m_furthest_first := PySem.W.mg_of X G a_furthest_first,
    f_furthest_first := f_furthest_first,
    fd_furthest_first := _,
    F_furthest_first := F_furthest_first,
    b_furthest_first := b_furthest_first,
    m_l_well := PySem.W.mg_of X G a_l_well,
    f_l_well := f_l_well,
    fd_l_well := _,
    F_l_well := F_l_well,
    b_l_well := b_l_well,
    m_l_take := PySem.W.mg_of X G a_l_take,
    f_l_take := f_l_take,
    fd_l_take := _,
    F_l_take := F_l_take,
    b_l_take := b_l_take,
    m_l_step := PySem.W.mg_of X G a_l_step,
    f_l_step := f_l_step,
    fd_l_step := _,
    F_l_step := F_l_step,
    b_l_step := b_l_step,
    m_l_parts := PySem.W.mg_of X G a_l_parts,
    f_l_parts := f_l_parts,
    fd_l_parts := _,
    F_l_parts := F_l_parts,
    b_l_parts := b_l_parts,
    m_l_beyond := PySem.W.mg_of X G a_l_beyond,
    f_l_beyond := f_l_beyond,
    fd_l_beyond := _,
    F_l_beyond := F_l_beyond,
    b_l_beyond := b_l_beyond,
    m_l_steps := PySem.W.mg_of X G a_l_steps,
    f_l_steps := f_l_steps,
    fd_l_steps := _,
    F_l_steps := F_l_steps,
    b_l_steps := b_l_steps,
    m_l_counts := PySem.W.mg_of X G a_l_counts,
    f_l_counts := f_l_counts,
    fd_l_counts := _,
    F_l_counts := F_l_counts,
    b_l_counts := b_l_counts,
    m_l_holds := PySem.W.mg_of X G a_l_holds,
    f_l_holds := f_l_holds,
    fd_l_holds := _,
    F_l_holds := F_l_holds,
    b_l_holds := b_l_holds,
    m_l_made := PySem.W.mg_of X G a_l_made,
    f_l_made := f_l_made,
    fd_l_made := _,
    F_l_made := F_l_made,
    b_l_made := b_l_made,
    m_l_odd := PySem.W.mg_of X G a_l_odd,
    f_l_odd := f_l_odd,
    fd_l_odd := _,
    F_l_odd := F_l_odd,
    b_l_odd := b_l_odd,
    m_l_bent := PySem.W.mg_of X G a_l_bent,
    f_l_bent := f_l_bent,
    fd_l_bent := _,
    F_l_bent := F_l_bent,
    b_l_bent := b_l_bent,
    m_law := PySem.W.mg_of X G a_law,
    f_law := _,
    fd_law := _,
    F_law := F_law,
    b_law := b_law,
    kN_tuple := kit_own nk_tuple (by decide +kernel),
    kN_int := kit_own nk_int (by decide +kernel),
    kN_bool := kit_own nk_bool (by decide +kernel),
    kN_not := kit_notown ic_N tc_N,
    m_gcd := PySem.W.mg_of X G a_gcd,
    m_lcm := PySem.W.mg_of X G a_lcm,
    n_range := PySem.W.mg_none_of X G z_range,
    n_isinstance := PySem.W.mg_none_of X G z_isinstance,
    n_str := PySem.W.mg_none_of X G z_str,
    n_int := PySem.W.mg_none_of X G z_int,
    n_list := PySem.W.mg_none_of X G z_list,
    n_len := PySem.W.mg_none_of X G z_len,
    n_abs := PySem.W.mg_none_of X G z_abs,
    n_max := PySem.W.mg_none_of X G z_max,
    n_bool := PySem.W.mg_none_of X G z_bool,
    n_repr := PySem.W.mg_none_of X G z_repr,
    n_tuple := PySem.W.mg_none_of X G z_tuple,
    n_all := PySem.W.mg_none_of X G z_all,
    n_sum := PySem.W.mg_none_of X G z_sum,
    n_sorted := PySem.W.mg_none_of X G z_sorted,
    n_zip := PySem.W.mg_none_of X G z_zip,
    n_enumerate := PySem.W.mg_none_of X G z_enumerate,
    D_RULES := D_RULES,
    m_RULES := PySem.W.mg_of X G a_RULES,
    es_RULES := es_RULES,
    en_RULES := en_RULES,
    l_RULES := l_RULES,
    k_RULES := k_RULES,
    rule_by_up := r_by_up,
    rule_by_down := r_by_down,
    rule_by_high := r_by_high,
    rule_by_low := r_by_low,
    rule_by_half_up := r_by_half_up,
    rule_by_half_down := r_by_half_down,
    rule_by_half_even := r_by_half_even,
    rule_by_half_odd := r_by_half_odd }⟩
theorem walk {l : PySem.W.OpenLaw} {q : Program} {loose : List Str} {XP : (Str → Option Value) → Heap → Prop} {YP : World → Heap → Prop} {d : DefRec} {K : Params → PySem.W.Frag} (hn : l.most = some 63) (hdf : d.params.defaults = [])
    (hY : ∀ (w : World) (h : Heap), YP w h → (K w.params).In h)
    (F : ∀ (w : World) (mg : Str → Option Value) (fa : Addr) (h : Heap), (K w.params).In h → h.Ns mainGlobals mg → mg d.name = some (.ref fa) →
      ∃ fd : FuncData, (∀ (s : Shared) (u : Value), BindsTo s fd ⟨[u], []⟩ [("_law_script", u)]) ∧ ∀ base : Heap, (K w.params).In base → base.Ns mainGlobals mg → FnG l.prog w (K w.params) mg base 14 fa fd ["_law_script"] (spLaw (K w.params))) :
    PySem.W.WalkO q loose XP YP l.row.toRowW d [] (fun f vs => PySem.call f vs) :=
  walk_ofG (n := 63) (k := 14) (x := "_law_script") (sp := fun w => spLaw (K w.params)) hn (by decide) hdf ⟨rfl, by decide, by decide⟩ hY F (fun _ _ a ns hl hS => ⟨a, ns, rfl, hS, hl, fun _ => rfl⟩)
end My
open PySem PySem.W PyProof.Rows in
set_option maxRecDepth 100000 in
set_option maxHeartbeats 0 in
theorem PySem.Challenge.cw_figuretexts_k66_sum_papers_spoilt_holds : PySem.Challenge.rw_figuretexts_k66_sum_papers_spoilt.Holds := by
  w_on; o_law; k_head; (case hw => w_witness2)
  k_fill
  refine My.walk (l := PySem.Challenge.rw_figuretexts_k66_sum_papers_spoilt) rfl rfl (fun w h Y => PySem.W.kIn_of Y) ?F
  case F =>
    intro w mg fa h KX G hmg
    refine' My.all_mk KX G hmg ?aC_Number ?pg_Number ?hd_Number ?po_Number ?sa_Number ?nf_Number_top ?nf_Number_bottom ?tc_Number ?tg_Number ?tt_Number ?tm_Number ?nn_Number ?mi_Number ?kc_Number ?a_is_whole ?l_is_whole ?c_is_whole ?k_is_whole ?a_Number_init ?i_Number_init ?l_Number_init ?c_Number_init ?k_Number_init ?T_Number_init ?a_Number_str ?i_Number_str ?l_Number_str ?c_Number_str ?k_Number_str ?a_Number_repr ?i_Number_repr ?l_Number_repr ?c_Number_repr ?k_Number_repr ?a_Number_more ?i_Number_more ?l_Number_more ?c_Number_more ?k_Number_more ?a_Number_less ?i_Number_less ?l_Number_less ?c_Number_less ?k_Number_less ?a_Number_over ?i_Number_over ?l_Number_over ?c_Number_over ?k_Number_over ?a_Number_below ?i_Number_below ?l_Number_below ?c_Number_below ?k_Number_below ?a_Number_floor ?i_Number_floor ?l_Number_floor ?c_Number_floor ?k_Number_floor ?a_total_of ?l_total_of ?c_total_of ?k_total_of ?a_sum_holds ?l_sum_holds ?c_sum_holds ?k_sum_holds ?a_is_told ?l_is_told ?c_is_told ?k_is_told ?a_is_put_so ?l_is_put_so ?c_is_put_so ?k_is_put_so ?a_is_rounded ?l_is_rounded ?c_is_rounded ?k_is_rounded ?a_round_paper ?l_round_paper ?c_round_paper ?k_round_paper ?W_round_paper ?a_place_of ?l_place_of ?c_place_of ?k_place_of ?a_by_up ?l_by_up ?c_by_up ?k_by_up ?a_by_down ?l_by_down ?c_by_down ?k_by_down ?a_by_high ?l_by_high ?c_by_high ?k_by_high ?a_by_low ?l_by_low ?c_by_low ?k_by_low ?a_by_half_up ?l_by_half_up ?c_by_half_up ?k_by_half_up ?a_by_half_down ?l_by_half_down ?c_by_half_down ?k_by_half_down ?a_by_half_even ?l_by_half_even ?c_by_half_even ?k_by_half_even ?a_by_half_odd ?l_by_half_odd ?c_by_half_odd ?k_by_half_odd ?a_nearer ?l_nearer ?c_nearer ?k_nearer ?a_parts_rounded ?l_parts_rounded ?c_parts_rounded ?k_parts_rounded ?a_furthest_first ?l_furthest_first ?c_furthest_first ?k_furthest_first ?a_l_well ?l_l_well ?c_l_well ?k_l_well ?a_l_take ?l_l_take ?c_l_take ?k_l_take ?a_l_step ?l_l_step ?c_l_step ?k_l_step ?a_l_parts ?l_l_parts ?c_l_parts ?k_l_parts ?a_l_beyond ?l_l_beyond ?c_l_beyond ?k_l_beyond ?a_l_steps ?l_l_steps ?c_l_steps ?k_l_steps ?a_l_counts ?l_l_counts ?c_l_counts ?k_l_counts ?a_l_holds ?l_l_holds ?c_l_holds ?k_l_holds ?a_l_made ?l_l_made ?c_l_made ?k_l_made ?a_l_odd ?l_l_odd ?c_l_odd ?k_l_odd ?a_l_bent ?l_l_bent ?c_l_bent ?k_l_bent ?a_law ?l_law ?c_law ?k_law ?nk_tuple ?nk_int ?nk_bool ?ic_N ?tc_N ?a_gcd ?a_lcm ?z_range ?z_isinstance ?z_str ?z_int ?z_list ?z_len ?z_abs ?z_max ?z_bool ?z_repr ?z_tuple ?z_all ?z_sum ?z_sorted ?z_zip ?z_enumerate ?a_RULES ?l_RULES ?k_RULES ?r_by_up ?r_by_down ?r_by_high ?r_by_low ?r_by_half_up ?r_by_half_down ?r_by_half_even ?r_by_half_odd
    (case aC_Number => k_is)
    (case pg_Number => k_is)
    (case hd_Number => k_is)
    (case po_Number => k_is)
    (case sa_Number => k_is)
    (case nf_Number_top => k_is)
    (case nf_Number_bottom => k_is)
    (case tc_Number => k_is)
    (case tg_Number => k_is)
    (case tt_Number => k_is)
    (case tm_Number => k_is)
    (case nn_Number => k_is)
    (case mi_Number => k_is)
    (case kc_Number => k_is)
    (case a_is_whole => k_is)
    (case l_is_whole => k_is)
    (case c_is_whole => k_is)
    (case k_is_whole => k_is)
    (case a_Number_init => k_is)
    (case i_Number_init => k_is)
    (case l_Number_init => k_is)
    (case c_Number_init => k_is)
    (case k_Number_init => k_is)
    (case T_Number_init => k_is)
    (case a_Number_str => k_is)
    (case i_Number_str => k_is)
    (case l_Number_str => k_is)
    (case c_Number_str => k_is)
    (case k_Number_str => k_is)
    (case a_Number_repr => k_is)
    (case i_Number_repr => k_is)
    (case l_Number_repr => k_is)
    (case c_Number_repr => k_is)
    (case k_Number_repr => k_is)
    (case a_Number_more => k_is)
    (case i_Number_more => k_is)
    (case l_Number_more => k_is)
    (case c_Number_more => k_is)
    (case k_Number_more => k_is)
    (case a_Number_less => k_is)
    (case i_Number_less => k_is)
    (case l_Number_less => k_is)
    (case c_Number_less => k_is)
    (case k_Number_less => k_is)
    (case a_Number_over => k_is)
    (case i_Number_over => k_is)
    (case l_Number_over => k_is)
    (case c_Number_over => k_is)
    (case k_Number_over => k_is)
    (case a_Number_below => k_is)
    (case i_Number_below => k_is)
    (case l_Number_below => k_is)
    (case c_Number_below => k_is)
    (case k_Number_below => k_is)
    (case a_Number_floor => k_is)
    (case i_Number_floor => k_is)
    (case l_Number_floor => k_is)
    (case c_Number_floor => k_is)
    (case k_Number_floor => k_is)
    (case a_total_of => k_is)
    (case l_total_of => k_is)
    (case c_total_of => k_is)
    (case k_total_of => k_is)
    (case a_sum_holds => k_is)
    (case l_sum_holds => k_is)
    (case c_sum_holds => k_is)
    (case k_sum_holds => k_is)
    (case a_is_told => k_is)
    (case l_is_told => k_is)
    (case c_is_told => k_is)
    (case k_is_told => k_is)
    (case a_is_put_so => k_is)
    (case l_is_put_so => k_is)
    (case c_is_put_so => k_is)
    (case k_is_put_so => k_is)
    (case a_is_rounded => k_is)
    (case l_is_rounded => k_is)
    (case c_is_rounded => k_is)
    (case k_is_rounded => k_is)
    (case a_round_paper => k_is)
    (case l_round_paper => k_is)
    (case c_round_paper => k_is)
    (case k_round_paper => k_is)
    (case W_round_paper => k_is)
    (case a_place_of => k_is)
    (case l_place_of => k_is)
    (case c_place_of => k_is)
    (case k_place_of => k_is)
    (case a_by_up => k_is)
    (case l_by_up => k_is)
    (case c_by_up => k_is)
    (case k_by_up => k_is)
    (case a_by_down => k_is)
    (case l_by_down => k_is)
    (case c_by_down => k_is)
    (case k_by_down => k_is)
    (case a_by_high => k_is)
    (case l_by_high => k_is)
    (case c_by_high => k_is)
    (case k_by_high => k_is)
    (case a_by_low => k_is)
    (case l_by_low => k_is)
    (case c_by_low => k_is)
    (case k_by_low => k_is)
    (case a_by_half_up => k_is)
    (case l_by_half_up => k_is)
    (case c_by_half_up => k_is)
    (case k_by_half_up => k_is)
    (case a_by_half_down => k_is)
    (case l_by_half_down => k_is)
    (case c_by_half_down => k_is)
    (case k_by_half_down => k_is)
    (case a_by_half_even => k_is)
    (case l_by_half_even => k_is)
    (case c_by_half_even => k_is)
    (case k_by_half_even => k_is)
    (case a_by_half_odd => k_is)
    (case l_by_half_odd => k_is)
    (case c_by_half_odd => k_is)
    (case k_by_half_odd => k_is)
    (case a_nearer => k_is)
    (case l_nearer => k_is)
    (case c_nearer => k_is)
    (case k_nearer => k_is)
    (case a_parts_rounded => k_is)
    (case l_parts_rounded => k_is)
    (case c_parts_rounded => k_is)
    (case k_parts_rounded => k_is)
    (case a_furthest_first => k_is)
    (case l_furthest_first => k_is)
    (case c_furthest_first => k_is)
    (case k_furthest_first => k_is)
    (case a_l_well => k_is)
    (case l_l_well => k_is)
    (case c_l_well => k_is)
    (case k_l_well => k_is)
    (case a_l_take => k_is)
    (case l_l_take => k_is)
    (case c_l_take => k_is)
    (case k_l_take => k_is)
    (case a_l_step => k_is)
    (case l_l_step => k_is)
    (case c_l_step => k_is)
    (case k_l_step => k_is)
    (case a_l_parts => k_is)
    (case l_l_parts => k_is)
    (case c_l_parts => k_is)
    (case k_l_parts => k_is)
    (case a_l_beyond => k_is)
    (case l_l_beyond => k_is)
    (case c_l_beyond => k_is)
    (case k_l_beyond => k_is)
    (case a_l_steps => k_is)
    (case l_l_steps => k_is)
    (case c_l_steps => k_is)
    (case k_l_steps => k_is)
    (case a_l_counts => k_is)
    (case l_l_counts => k_is)
    (case c_l_counts => k_is)
    (case k_l_counts => k_is)
    (case a_l_holds => k_is)
    (case l_l_holds => k_is)
    (case c_l_holds => k_is)
    (case k_l_holds => k_is)
    (case a_l_made => k_is)
    (case l_l_made => k_is)
    (case c_l_made => k_is)
    (case k_l_made => k_is)
    (case a_l_odd => k_is)
    (case l_l_odd => k_is)
    (case c_l_odd => k_is)
    (case k_l_odd => k_is)
    (case a_l_bent => k_is)
    (case l_l_bent => k_is)
    (case c_l_bent => k_is)
    (case k_l_bent => k_is)
    (case a_law => k_is)
    (case l_law => k_is)
    (case c_law => k_is)
    (case k_law => k_is)
    (case nk_tuple => k_is)
    (case nk_int => k_is)
    (case nk_bool => k_is)
    (case ic_N => k_is)
    (case tc_N => k_is)
    (case a_gcd => k_is)
    (case a_lcm => k_is)
    (case z_range => k_is)
    (case z_isinstance => k_is)
    (case z_str => k_is)
    (case z_int => k_is)
    (case z_list => k_is)
    (case z_len => k_is)
    (case z_abs => k_is)
    (case z_max => k_is)
    (case z_bool => k_is)
    (case z_repr => k_is)
    (case z_tuple => k_is)
    (case z_all => k_is)
    (case z_sum => k_is)
    (case z_sorted => k_is)
    (case z_zip => k_is)
    (case z_enumerate => k_is)
    (case a_RULES => k_is)
    (case l_RULES => k_is)
    (case k_RULES => exact ⟨⟨_, _, rfl, rfl⟩, ⟨_, _, rfl, rfl⟩, ⟨_, _, rfl, rfl⟩, ⟨_, _, rfl, rfl⟩, ⟨_, _, rfl, rfl⟩, ⟨_, _, rfl, rfl⟩, ⟨_, _, rfl, rfl⟩, ⟨_, _, rfl, rfl⟩, trivial⟩)
    (case r_by_up => k_is)
    (case r_by_down => k_is)
    (case r_by_high => k_is)
    (case r_by_low => k_is)
    (case r_by_half_up => k_is)
    (case r_by_half_down => k_is)
    (case r_by_half_even => k_is)
    (case r_by_half_odd => k_is)
