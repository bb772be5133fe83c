import PyProof.Rows.All
import Wide.All
import OpenK.AllK
import Wide.FinOn
import HandS.ForMost
import HandS.Wide
import HandS.WideBits
import HandS.Dict
import HandS.OwnEq
import PyProof.SeqRoads2
import HandS.Gcd
import HandS.Defaults
import HandS.CallLocal
import HandS.Style
import HandS.IsInst
import HandS.More
import HandS.TupAny
import HandS.StrMore
import HandS.Codes
import HandS.FStr
import HandS.ForSpec
import HandS.ExcIs
import KE.KExcInit
import HandS.Conv
import HandS.Sort
import PyProof.IsiH_set
import PyProof.FactsAll.object
import PyProof.TableTree
import PyProof.FactsTree
import KE.KIsAll
import PyProof.LongRange
import PyProof.ListRange
import PyProof.EqKinds
import PyProof.Rows.IntBool
import PyProof.Rows.EqBoolInt
import PyProof.Rows.ReprOcc
import PySem.Challenge.RW_figuretexts_k56_shortest_papers_spoilt

set_option Elab.async false
set_option linter.all false
set_option maxRecDepth 100000
set_option maxHeartbeats 4000000

namespace My
/-! numbers as Rat -/
def cdiv (t b : Int) : Int := if b < 0 then -((Nat.gcd t.natAbs b.natAbs : Nat) : Int) else ((Nat.gcd t.natAbs b.natAbs : Nat) : Int)
theorem gcd_pos {t b : Int} (h : b ≠ 0) : 0 < Nat.gcd t.natAbs b.natAbs := Nat.gcd_pos_of_pos_right _ (by omega)
theorem num_of {t b : Int} (h : b ≠ 0) : t.fdiv (cdiv t b) = (Rat.divInt t b).num := by
  have g := gcd_pos (t := t) h
  have d1 : ((Nat.gcd t.natAbs b.natAbs : Nat) : Int) ∣ t := Int.dvd_trans (Int.natCast_dvd_natCast.mpr (Nat.gcd_dvd_left _ _)) (Int.natAbs_dvd.mpr (Int.dvd_refl _))
  rw [Rat.num_divInt]
  have e : ((Int.gcd b t : Nat) : Int) = ((Nat.gcd t.natAbs b.natAbs : Nat) : Int) := by
    rw [Int.gcd_comm]; rfl
  rw [e]
  unfold cdiv
  obtain ⟨k, hk⟩ := d1
  have gn : ((Nat.gcd t.natAbs b.natAbs : Nat) : Int) ≠ 0 := by omega
  generalize ((Nat.gcd t.natAbs b.natAbs : Nat) : Int) = G at *
  subst hk
  by_cases hb : b < 0
  · rw [if_pos hb, Int.sign_eq_neg_one_of_neg hb]
    rw [show G * k = (-G) * (-k) by rw [Int.neg_mul_neg], Int.mul_fdiv_cancel_left _ (by omega)]
    rw [show -1 * (-G * -k) = G * (-k) by rw [Int.neg_mul_neg]; rw [Int.neg_one_mul, Int.mul_neg], Int.mul_ediv_cancel_left _ gn]
  · have hb' : 0 < b := by omega
    rw [if_neg hb, Int.sign_eq_one_of_pos hb', Int.one_mul, Int.mul_fdiv_cancel_left _ gn, Int.mul_ediv_cancel_left _ gn]
theorem den_of {t b : Int} (h : b ≠ 0) : b.fdiv (cdiv t b) = ((Rat.divInt t b).den : Int) := by
  have g := gcd_pos (t := t) h
  have d1 : ((Nat.gcd t.natAbs b.natAbs : Nat) : Int) ∣ b := Int.dvd_trans (Int.natCast_dvd_natCast.mpr (Nat.gcd_dvd_right _ _)) (Int.natAbs_dvd.mpr (Int.dvd_refl _))
  rw [Rat.den_divInt, if_neg h]
  have e : (Int.gcd b t : Nat) = (Nat.gcd t.natAbs b.natAbs : Nat) := by
    rw [Int.gcd_comm]; rfl
  rw [e, Int.natCast_ediv]
  unfold cdiv
  obtain ⟨k, hk⟩ := d1
  have gn : ((Nat.gcd t.natAbs b.natAbs : Nat) : Int) ≠ 0 := by omega
  have gp : 0 < ((Nat.gcd t.natAbs b.natAbs : Nat) : Int) := by omega
  generalize hG : ((Nat.gcd t.natAbs b.natAbs : Nat) : Int) = G at *
  by_cases hb : b < 0
  · rw [if_pos hb, show ((b.natAbs : Nat) : Int) = -b by omega]
    rw [hk, show G * k = (-G) * (-k) by rw [Int.neg_mul_neg], Int.mul_fdiv_cancel_left _ (by omega)]
    rw [show -(-G * -k) = G * (-k) by rw [Int.neg_mul_neg, Int.mul_neg], Int.mul_ediv_cancel_left _ gn]
  · rw [if_neg hb, show ((b.natAbs : Nat) : Int) = b by omega, hk, Int.mul_fdiv_cancel_left _ gn, Int.mul_ediv_cancel_left _ gn]

/-- top and bottom below 2 ^ n -/
def Bd (n : Nat) (q : Rat) : Prop := q.num.natAbs < 2 ^ n ∧ q.den < 2 ^ n
theorem Bd.mono {m n : Nat} {q : Rat} (h : Bd m q) (l : m ≤ n) : Bd n q :=
  ⟨Nat.lt_of_lt_of_le h.1 (Nat.pow_le_pow_right (by decide) l), Nat.lt_of_lt_of_le h.2 (Nat.pow_le_pow_right (by decide) l)⟩
theorem num_le (t b : Int) : (Rat.divInt t b).num.natAbs ≤ t.natAbs := by
  rw [Rat.num_divInt]
  refine Nat.le_trans (Int.natAbs_ediv_le_natAbs _ _) ?_
  rw [Int.natAbs_mul]
  rcases Int.lt_trichotomy b 0 with h | h | h
  · rw [Int.sign_eq_neg_one_of_neg h]; simp
  · subst h; simp
  · rw [Int.sign_eq_one_of_pos h]; simp
theorem den_le {t b : Int} (h : b ≠ 0) : (Rat.divInt t b).den ≤ b.natAbs := by
  rw [Rat.den_divInt, if_neg h]
  exact Nat.div_le_self _ _
theorem Bd.of {n : Nat} {t b : Int} (h : b ≠ 0) (ht : t.natAbs < 2 ^ n) (hb : b.natAbs < 2 ^ n) : Bd n (Rat.divInt t b) :=
  ⟨Nat.lt_of_le_of_lt (num_le t b) ht, Nat.lt_of_le_of_lt (den_le h) hb⟩
theorem den_ne (q : Rat) : ((q.den : Nat) : Int) ≠ 0 := by have := q.den_pos; omega
theorem sub_eq (x y : Rat) : Rat.divInt (x.num * (y.den : Int) - y.num * (x.den : Int)) ((x.den : Int) * (y.den : Int)) = x - y := by
  rw [Rat.sub_def', ← Int.natCast_mul, Rat.divInt_ofNat]
theorem add_eq (x y : Rat) : Rat.divInt (x.num * (y.den : Int) + y.num * (x.den : Int)) ((x.den : Int) * (y.den : Int)) = x + y := by
  rw [Rat.add_def', ← Int.natCast_mul, Rat.divInt_ofNat]
theorem mul_eq (x y : Rat) : Rat.divInt (x.num * y.num) ((x.den : Int) * (y.den : Int)) = x * y := by
  rw [Rat.mul_def', ← Int.natCast_mul, Rat.divInt_ofNat]
theorem div_eq (x y : Rat) : Rat.divInt (x.num * (y.den : Int)) ((x.den : Int) * y.num) = x / y := by
  rw [Rat.div_def, Rat.inv_def, ← Rat.divInt_mul_divInt, Rat.num_divInt_den]
theorem num_ne {y : Rat} (h : y ≠ 0) : y.num ≠ 0 := fun e => h (Rat.num_eq_zero.mp e)
theorem floor_eq (x : Rat) : x.num.fdiv (x.den : Int) = x.floor := by
  rw [Rat.floor_def, Int.fdiv_eq_ediv_of_nonneg _ (by omega)]
theorem natAbs_mul_lt {a b : Int} {m n k : Nat} (ha : a.natAbs < 2 ^ m) (hb : b.natAbs < 2 ^ n) (h : m + n ≤ k) : (a * b).natAbs < 2 ^ k := by
  rw [Int.natAbs_mul]
  exact Nat.lt_of_lt_of_le (Nat.mul_lt_mul'' ha hb) (by rw [← Nat.pow_add]; exact Nat.pow_le_pow_right (by decide) h)
theorem natAbs_sub_lt {a b : Int} {k : Nat} (ha : a.natAbs < 2 ^ k) (hb : b.natAbs < 2 ^ k) : (a - b).natAbs < 2 ^ (k + 1) := by
  rw [Nat.pow_succ]; omega
theorem natAbs_add_lt {a b : Int} {k : Nat} (ha : a.natAbs < 2 ^ k) (hb : b.natAbs < 2 ^ k) : (a + b).natAbs < 2 ^ (k + 1) := by
  rw [Nat.pow_succ]; omega
theorem Bd.sub {m n : Nat} {x y : Rat} (hx : Bd m x) (hy : Bd n y) : Bd (m + n + 1) (x - y) := by
  rw [← sub_eq]
  refine Bd.of (Int.mul_ne_zero (den_ne x) (den_ne y)) ?_ ?_
  · exact natAbs_sub_lt (natAbs_mul_lt (m := m) (n := n) hx.1 (by have := hy.2; omega) (Nat.le_refl _)) (natAbs_mul_lt (m := n) (n := m) hy.1 (by have := hx.2; omega) (by omega))
  · exact natAbs_mul_lt (m := m) (n := n) (by have := hx.2; omega) (by have := hy.2; omega) (by omega)
theorem Bd.mul {m n : Nat} {x y : Rat} (hx : Bd m x) (hy : Bd n y) : Bd (m + n) (x * y) := by
  rw [← mul_eq]
  exact Bd.of (Int.mul_ne_zero (den_ne x) (den_ne y)) (natAbs_mul_lt hx.1 hy.1 (Nat.le_refl _)) (natAbs_mul_lt (m := m) (n := n) (by have := hx.2; omega) (by have := hy.2; omega) (by omega))
theorem Bd.div {m n : Nat} {x y : Rat} (hx : Bd m x) (hy : Bd n y) (h : y ≠ 0) : Bd (m + n) (x / y) := by
  rw [← div_eq]
  exact Bd.of (Int.mul_ne_zero (den_ne x) (num_ne h)) (natAbs_mul_lt (m := m) (n := n) hx.1 (by have := hy.2; omega) (Nat.le_refl _)) (natAbs_mul_lt (m := m) (n := n) (by have := hx.2; omega) hy.1 (by omega))
theorem Bd.int {n : Nat} {i : Int} (h : i.natAbs < 2 ^ n) (h1 : 1 ≤ n) : Bd n (i : Rat) := ⟨h, by
  show 1 < 2 ^ n
  exact Nat.lt_of_lt_of_le (by decide) (Nat.pow_le_pow_right (by decide) h1)⟩
theorem floor_bd {n : Nat} {x : Rat} (h : Bd n x) : x.floor.natAbs < 2 ^ n := by
  rw [Rat.floor_def]
  exact Nat.lt_of_le_of_lt (Int.natAbs_ediv_le_natAbs _ _) h.1
theorem divInt_one (i : Int) : Rat.divInt i 1 = (i : Rat) := by
  have := Rat.divInt_ofNat i 1
  rw [show ((1 : Nat) : Int) = 1 from rfl] at this
  rw [this, Rat.mkRat_eq_div]; simp
  grind

/-! the ways -/
inductive Way where
  | up | down | high | low | hup | hdown | heven | hodd
def nearerB (part : Rat) (a : Bool) : Bool := if 2 * part.num = (part.den : Int) then a else decide ((part.den : Int) < 2 * part.num)
def ruleB : Way → Int → Rat → Bool
  | .up, l, _ => decide (0 ≤ l)
  | .down, l, _ => decide (l < 0)
  | .high, _, _ => true
  | .low, _, _ => false
  | .hup, l, p => nearerB p (decide (0 ≤ l))
  | .hdown, l, p => nearerB p (decide (l < 0))
  | .heven, l, p => nearerB p (decide (l % 2 = 1))
  | .hodd, l, p => nearerB p (decide (l % 2 = 0))
def partQ (n : Rat) : Rat := n - (n.floor : Rat)
def highQ (n : Rat) : Int := if (partQ n).num = 0 then n.floor else n.floor + 1
def takenQ (w : Way) (n : Rat) : Int := if (partQ n).num = 0 then n.floor else if ruleB w n.floor (partQ n) = true then n.floor + 1 else n.floor
theorem floor_add {c : Int} {f : Rat} (h0 : 0 ≤ f) (h1 : f < 1) : ((c : Rat) + f).floor = c := by
  have a : c ≤ ((c : Rat) + f).floor := Rat.le_floor_iff.mpr (by grind)
  have b : ((c : Rat) + f).floor < c + 1 := Rat.floor_lt_iff.mpr (by rw [Rat.intCast_add]; grind)
  omega
theorem part_add {c : Int} {f : Rat} (h0 : 0 ≤ f) (h1 : f < 1) : partQ ((c : Rat) + f) = f := by
  unfold partQ
  rw [floor_add h0 h1]
  grind
theorem taken_add {w : Way} {c : Int} {f : Rat} (h0 : 0 < f) (h1 : f < 1) : takenQ w ((c : Rat) + f) = if ruleB w c f = true then c + 1 else c := by
  unfold takenQ
  rw [part_add (Rat.le_of_lt h0) h1, floor_add (Rat.le_of_lt h0) h1, if_neg (num_ne (by grind))]
/-- a number of whole and part steps -/
theorem steps_eq {a b c p0 p1 : Int} (ha : a ≠ 0) (hb : b ≠ 0) (h1 : p1 ≠ 0) : Rat.divInt (a * (c * p1 + p0)) (b * p1) / Rat.divInt a b = (c : Rat) + Rat.divInt p0 p1 := by
  simp only [Rat.divInt_eq_div, Rat.intCast_mul, Rat.intCast_add]
  have ha' : (a : Rat) ≠ 0 := by simpa using ha
  have hb' : (b : Rat) ≠ 0 := by simpa using hb
  have h1' : (p1 : Rat) ≠ 0 := by simpa using h1
  grind
end My

namespace My
open PySem L2
/-! readings, one head at a time -/
section
variable {σ : L2.St} {H : Hp} {Q : VK} {QB : Bool → Hp → Prop} {QA : List V → Hp → Prop} {QS : L2.St → Hp → Prop} {v x y : V} {ta tb te tc : TE} {tr : TA} {t u : TS} {c d : TT} {g : TG} {i : Nat} {K : PySem.W.Frag} {b : Bool}
  {nx : L2.St → Hp → Prop} {rt : VK} {bk ct : L2.St → Hp → Prop}
theorem r_var (q : ∃ v, σ[i]? = some (some v) ∧ Q v H) : tVar i σ H Q := q
theorem r_c (q : Q v H) : tC v σ H Q := q
theorem r_op {r : R2} (q : ta σ H fun x H1 => tb σ H1 fun y H2 => r x y H2 Q) : tOp r ta tb σ H Q := q
theorem r_un {r : V → Hp → VK → Prop} (q : ta σ H fun x H1 => r x H1 Q) : tUn r ta σ H Q := q
theorem r_U {f : Int → V} {i : Int} (q : Q (f i) H) : rU f (.int i) H Q := ⟨i, rfl, q⟩
theorem r_I0 {f : Int → Int → V} {i j : Int} (q : Q (f i j) H) : rI0 f (.int i) (.int j) H Q := ⟨i, j, rfl, rfl, q⟩
theorem r_I {C : Int → Int → Prop} {f : Int → Int → V} {i j : Int} (h : C i j) (q : Q (f i j) H) : rI C f (.int i) (.int j) H Q := ⟨i, j, rfl, rfl, h, q⟩
theorem r_eq (h : scal x y = true) (q : Q (.bl (decide (x = y))) H) : rEq x y H Q := ⟨h, q⟩
theorem r_ne (h : scal x y = true) (q : Q (.bl (!decide (x = y))) H) : rNe x y H Q := ⟨h, q⟩
theorem r_eqI {i j : Int} (q : Q (.bl (decide (i = j))) H) : rEq (.int i) (.int j) H Q := ⟨rfl, by
  have e : decide (V.int i = V.int j) = decide (i = j) := by simp
  rw [e]; exact q⟩
theorem r_neI {i j : Int} (q : Q (.bl (!decide (i = j))) H) : rNe (.int i) (.int j) H Q := ⟨rfl, by
  have e : decide (V.int i = V.int j) = decide (i = j) := by simp
  rw [e]; exact q⟩
theorem r_eqS {i j : Str} (q : Q (.bl (decide (i = j))) H) : rEq (.str i) (.str j) H Q := ⟨rfl, by
  have e : decide (V.str i = V.str j) = decide (i = j) := by simp
  rw [e]; exact q⟩
theorem r_eqB {i j : Bool} (q : Q (.bl (decide (i = j))) H) : rEq (.bl i) (.bl j) H Q := ⟨rfl, by
  have e : decide (V.bl i = V.bl j) = decide (i = j) := by simp
  rw [e]; exact q⟩
theorem r_test (q : te σ H fun x H' => ∃ k, x = .bl k ∧ QB k H') : tTest te σ H QB := q
theorem r_B (q : te σ H fun x H' => ∃ k, x = .bl k ∧ QB k H') : tB te σ H QB := q
theorem r_k {P : Bool → Prop} (q : P b) : ∃ k, V.bl b = .bl k ∧ P k := ⟨b, rfl, q⟩
theorem r_and (q : c σ H fun b H1 => if b = true then d σ H1 QB else QB false H1) : tAnd c d σ H QB := q
theorem r_or (q : c σ H fun b H1 => if b = true then QB true H1 else d σ H1 QB) : tOr c d σ H QB := q
theorem r_not (q : c σ H fun b H1 => QB (!b) H1) : tNot c σ H QB := q
theorem r_andV (q : ta σ H fun x H1 => ∃ c, x = .bl c ∧ if c = true then tb σ H1 Q else Q (.bl false) H1) : tAndV ta tb σ H Q := q
theorem r_orV (q : ta σ H fun x H1 => ∃ c, x = .bl c ∧ if c = true then Q (.bl true) H1 else tb σ H1 Q) : tOrV ta tb σ H Q := q
theorem r_notV (q : ta σ H fun x H1 => ∃ c, x = .bl c ∧ Q (.bl (!c)) H1) : tNotV ta σ H Q := q
theorem r_if (q : c σ H fun b H1 => if b = true then ta σ H1 Q else tb σ H1 Q) : tIf c ta tb σ H Q := q
theorem r_seq (q : t ⟨u ⟨nx, rt, bk, ct⟩, rt, bk, ct⟩ σ H) : tSeq t u ⟨nx, rt, bk, ct⟩ σ H := q
theorem r_asg (q : te σ H fun x H1 => g x σ H1 nx) : tAsg te g ⟨nx, rt, bk, ct⟩ σ H := q
theorem r_name (q : QS (σ.set i (some v)) H) : gName i v σ H QS := q
theorem r_ifs (q : c σ H fun b H1 => if b = true then t ⟨nx, rt, bk, ct⟩ σ H1 else u ⟨nx, rt, bk, ct⟩ σ H1) : tIfS c t u ⟨nx, rt, bk, ct⟩ σ H := q
theorem r_ret (q : te σ H rt) : tRet te ⟨nx, rt, bk, ct⟩ σ H := q
theorem r_next (q : nx σ H) : tNext ⟨nx, rt, bk, ct⟩ σ H := q
theorem r_drop (q : te σ H fun _ H1 => nx σ H1) : tDrop te ⟨nx, rt, bk, ct⟩ σ H := q
theorem r_cons (q : te σ H fun x H1 => tr σ H1 fun xs H2 => QA (x :: xs) H2) : tCons te tr σ H QA := q
theorem r_nil (q : QA [] H) : tNil σ H QA := q
theorem r_tup (q : tr σ H fun xs H1 => xs.length ≤ sizeLine ∧ ∀ p, H1 p = none → Q (.ref p) (upd H1 p (.tup xs))) : tTup tr σ H Q := q
theorem r_lst (q : tr σ H fun xs H1 => xs.length ≤ sizeLine ∧ ∀ p, H1 p = none → Q (.ref p) (upd H1 p (.lst xs))) : tLst tr σ H Q := q
theorem r_new {n : Nat} {P : Prop} (h : n ≤ 1000) (q : P) : n ≤ sizeLine ∧ P := ⟨Nat.le_trans h (by decide), q⟩
theorem r_fldT {f : Str} (q : ta σ H fun x H1 => ∃ a C dx fs v, x = .ref a ∧ H1 a = some (.ins C dx fs) ∧ Cls K C ∧ NoAttr K C f ∧ fs.lookup f = some v ∧ Q v H1) : tFld K ta f σ H Q := q
theorem r_fld {f : Str} {p C dx : Addr} {fs : List (Str × V)} (h : H p = some (.ins C dx fs)) (k : Cls K C) (n : NoAttr K C f) (l : fs.lookup f = some v) {P : V → Prop} (q : P v) :
    ∃ a C dx fs v, V.ref p = .ref a ∧ H a = some (.ins C dx fs) ∧ Cls K C ∧ NoAttr K C f ∧ fs.lookup f = some v ∧ P v := ⟨p, C, dx, fs, v, rfl, h, k, n, l, q⟩
theorem r_sFld {f : Str} (q : te σ H fun y H1 => ta σ H1 fun x H2 => ∃ a C dx fs, x = .ref a ∧ H2 a = some (.ins C dx fs) ∧ Cls K C ∧ NoAttr K C f ∧ fs.length < 1000 ∧ nx σ (upd H2 a (.ins C dx (putF f y fs)))) : sFld K ta te f ⟨nx, rt, bk, ct⟩ σ H := q
theorem r_call {sp : Sp} {dvs : List V} {E : XK} (q : tr σ H fun vs H1 => sp (vs ++ dvs) H1 Q E) : tCall sp dvs E tr σ H Q := q
theorem r_CB {r : List V → Hp → VK → Prop} (q : tr σ H fun vs H1 => r vs H1 Q) : tCB r tr σ H Q := q
theorem r_meth {C : Addr} {m : Str} {sp : Sp} {dvs : List V} {E : XK} (q : ta σ H fun x H1 => ∃ a dx fs, x = .ref a ∧ H1 a = some (.ins C dx fs) ∧ fs.lookup m = none ∧ tr σ H1 fun vs H2 => sp (x :: (vs ++ dvs)) H2 Q E) : tMeth C m sp dvs E ta tr σ H Q := q
theorem r_meth1 {C : Addr} {m : Str} {P : Prop} {p dx : Addr} {fs : List (Str × V)} (h : H p = some (.ins C dx fs)) (l : fs.lookup m = none) (q : P) : ∃ a dx fs, V.ref p = .ref a ∧ H a = some (.ins C dx fs) ∧ fs.lookup m = none ∧ P := ⟨p, dx, fs, rfl, h, l, q⟩
theorem r_make {C : Addr} {sp : Sp} {dvs : List V} {E : XK} (q : tr σ H fun vs H1 => ∀ x dx, H1 x = none → H1 dx = none → dx ≠ x → sp (.ref x :: (vs ++ dvs)) (upd (upd H1 dx (.own x)) x (.ins C dx [])) (fun v H2 => v = .non ∧ Q (.ref x) H2) E) : tMake C sp dvs E tr σ H Q := q
theorem r_callN {n m : Nat} {sp : Sp} {gV : List V → List V → List V} {E : XK} {tk : TA} (q : tr σ H fun vs H1 => tk σ H1 fun zs H2 => vs.length = n ∧ zs.length = m ∧ sp (gV vs zs) H2 Q E) : tCallN n m sp gV E tr tk σ H Q := q
theorem r_ixT {p : Addr} {xs : List V} {i : Int} (h : H p = some (.tup xs)) (a : atI xs i = some v) (q : Q v H) : rIxT K (.ref p) (.int i) H Q := ⟨p, xs, i, v, rfl, rfl, SqT.of h, a, q⟩
theorem r_ixL {p : Addr} {xs : List V} {i : Int} (h : H p = some (.lst xs)) (a : atI xs i = some v) (q : Q v H) : rIxL K (.ref p) (.int i) H Q := ⟨p, xs, i, v, rfl, rfl, SqL.of h, a, q⟩
theorem r_isi {vs : List V} (q : rIsi K vs H Q) : rIsi K vs H Q := q
theorem r_ite {A B : Prop} {k : Bool} (h1 : k = true → A) (h2 : k = false → B) : if k = true then A else B := by
  cases k with
  | true => exact h1 rfl
  | false => exact h2 rfl
theorem r_iteT {A B : Prop} {k : Bool} (h : k = true) (q : A) : if k = true then A else B := by
  rw [if_pos h]; exact q
theorem r_iteF {A B : Prop} {k : Bool} (h : k = false) (q : B) : if k = true then A else B := by
  subst h; exact iteF q
end
/-! ### // by any number but nought -/
def CDivA (_ j : Int) : Prop := j ≠ 0 ∧ j.natAbs.log2 < 9000
theorem op_fdivA {X : Cx} : OpR X (binaryOp .FloorDiv) (rI CDivA fun i j => .int (i.fdiv j)) := opI fun i j _ _ _ _ _ hc q => PyProof.Rows.floordiv_int hc.1 q (.inl (PyProof.noPylong_of_log2 hc.2))
theorem cdivA {i j : Int} {b : Nat} (h : j ≠ 0) (hb : j.natAbs < 2 ^ b) (h0 : 0 < b) (h9 : b ≤ 9000) : CDivA i j := ⟨h, Nat.lt_of_lt_of_le (PySem.Flt.log2_lt_of h0 hb) h9⟩
/-! ### heaps but for two places -/
def Off (d c : Addr) (H H' : Hp) : Prop := ∀ b o, b ≠ d → b ≠ c → H b = some o → H' b = some o
theorem Off.refl (d c : Addr) (H : Hp) : Off d c H H := fun _ _ _ _ h => h
theorem Off.trans {d c : Addr} {H H1 H2 : Hp} (a : Off d c H H1) (b : Off d c H1 H2) : Off d c H H2 := fun x o h1 h2 h => b x o h1 h2 (a x o h1 h2 h)
theorem Off.of {d c : Addr} {H H' : Hp} (a : Same H H') : Off d c H H' := fun x o _ _ h => a x o h
theorem Same.new {H : Hp} {p : Addr} {o : HO} (h : H p = none) : Same H (upd H p o) := fun b u e => by
  rw [upd_ne (ne_of_none e h)]
  exact e
/-! ### more heads -/
section
variable {σ : L2.St} {H : Hp} {Q : VK} {QA : List V → Hp → Prop} {QS : L2.St → Hp → Prop} {QO : Option Int → Hp → Prop} {v x y : V} {te ta to ti : TE} {tr : TA} {tl th : TO} {K : PySem.W.Frag} {nx : L2.St → Hp → Prop} {rt : VK} {bk ct : L2.St → Hp → Prop}
theorem r_gsub {t : TSet} (q : to σ H fun o H1 => ti σ H1 fun i H2 => t o i v H2 fun H3 => QS σ H3) : gSub to ti t v σ H QS := q
theorem r_setL {p : Addr} {xs : List V} {k : Int} {j : Nat} {R : Hp → Prop} (h : H p = some (.lst xs)) (e : ixN xs.length k = some j) (q : R (upd H p (.lst (xs.set j v)))) : rSetL (.ref p) (.int k) v H R := ⟨p, xs, k, j, rfl, rfl, h, e, q⟩
theorem r_sl {r : V → Option Int → Option Int → Hp → VK → Prop} (q : te σ H fun x H1 => tl σ H1 fun l H2 => th σ H2 fun u H3 => r x l u H3 Q) : tSl r te tl th σ H Q := q
theorem r_noPart (q : QO none H) : tNoPart σ H QO := q
theorem r_part (q : te σ H fun x H1 => ∃ i, x = .int i ∧ QO (some i) H1) : tPart te σ H QO := q
theorem r_ki {P : Int → Prop} {i : Int} (q : P i) : ∃ k, V.int i = .int k ∧ P k := ⟨i, rfl, q⟩
theorem r_bm0 {T : String} {r : V → List V → Hp → VK → Prop} (q : te σ H fun x H1 => tyV K T x H1 ∧ r x [] H1 Q) : tBM0 K T r te σ H Q := q
theorem r_bm {T : String} {r : V → List V → Hp → VK → Prop} (q : te σ H fun x H1 => tyV K T x H1 ∧ tr σ H1 fun xs H2 => r x xs H2 Q) : tBM K T r te tr σ H Q := q
theorem r_rev (q : te σ H fun x H1 => ∃ a xs, x = .ref a ∧ SqL K H1 a xs ∧ ∀ p, H1 p = none → Q (.ref p) (upd H1 p (.lst xs.reverse))) : tRevL K te σ H Q := q
theorem ty_list {p : Addr} {xs : List V} (h : H p = some (.lst xs)) : tyV K "list" (.ref p) H := .inl ⟨rfl, _, SqL.of h⟩
theorem r_pop {p : Addr} {xs : List V} {y : V} (h : H p = some (.lst (xs ++ [y]))) (q : Q y (upd H p (.lst xs))) : rPop (.ref p) [] H Q := by
  refine ⟨p, xs ++ [y], y, rfl, rfl, h, by simp, ?_⟩
  rw [List.dropLast_concat]
  exact q
theorem r_append {p : Addr} {xs : List V} (h : H p = some (.lst xs)) (l : xs.length ≤ 1000) (q : Q .non (upd H p (.lst (xs ++ [y])))) : rAppend (.ref p) [y] H Q := ⟨p, xs, y, rfl, rfl, h, Nat.lt_of_le_of_lt l (by decide), q⟩
end
theorem dp_ints {K : PySem.W.Frag} {H : Hp} : ∀ xs : List Int, DpAll K H (xs.map V.int) (xs.map PyData.int)
  | [] => .nil
  | x :: xs => .cons (.int x) (dp_ints xs)
theorem lay_ints : ∀ xs : List Int, PyData.canLayAll0 (xs.map PyData.int) = true ∧ PyData.depthAll (xs.map PyData.int) = 0
  | [] => ⟨rfl, rfl⟩
  | x :: xs => by
    obtain ⟨a, b⟩ := lay_ints xs
    constructor
    · show (PyData.canLay0 (.int x) && PyData.canLayAll0 (xs.map PyData.int)) = true
      rw [a]; rfl
    · show max (PyData.depth (.int x)) (PyData.depthAll (xs.map PyData.int)) = 0
      rw [b]; rfl
theorem shaped_ints (xs : List Int) : SeqAt.shaped (.list (xs.map PyData.int)) = true := by
  obtain ⟨a, b⟩ := lay_ints xs
  have a' : PyData.canLay0 (.list (xs.map PyData.int)) = true := by rw [PyData.canLay0]; exact a
  have b' : PyData.depth (.list (xs.map PyData.int)) = 1 := by rw [PyData.depth, b]
  unfold SeqAt.shaped
  rw [a', b']; rfl
theorem eqv_ints : ∀ xs ys : List Int, PyData.eqvAll (xs.map PyData.int) (ys.map PyData.int) = decide (xs = ys)
  | [], [] => rfl
  | [], _ :: _ => by simp [PyData.eqvAll]
  | _ :: _, [] => by simp [PyData.eqvAll]
  | x :: xs, y :: ys => by
    show (PyData.eqv (.int x) (.int y) && PyData.eqvAll (xs.map PyData.int) (ys.map PyData.int)) = _
    rw [eqv_ints xs ys]
    show ((x == y) && decide (xs = ys)) = _
    rw [Bool.eq_iff_iff]; simp
theorem r_neInts {K : PySem.W.Frag} {H : Hp} {Q : VK} {p q : Addr} {xs ys : List Int} (h : SqL K H p (xs.map V.int)) (h' : SqL K H q (ys.map V.int)) (k : Q (.bl (!decide (xs = ys))) H) : rNeD K (.ref p) (.ref q) H Q :=
  ⟨.list (xs.map PyData.int), .list (ys.map PyData.int), .lst h (dp_ints xs), .lst h' (dp_ints ys), shaped_ints xs, shaped_ints ys, by
    rw [PyData.eqv, eqv_ints]; exact k⟩
theorem cut_ints (ns : List Int) (k : Int) : ∃ ms : List Int, cutV (ns.map V.int) none (some k) = ms.map V.int ∧ ms.length ≤ ns.length := by
  unfold cutV
  rw [← List.map_drop, ← List.map_take]
  exact ⟨_, rfl, by rw [List.length_take, List.length_drop]; omega⟩
end My
namespace My
open PySem L2
theorem r_forT {σ : L2.St} {H : Hp} {K : PySem.W.Frag} {tl : TE} {g : TG} {tb : TS} {D : Ends} (q : tl σ H fun x H1 => ∃ a, x = .ref a ∧ (∃ xs, SqT K H1 a xs) ∧ ∃ W : Nat → Nat → L2.St → Hp → Prop, (∃ m, W 0 m σ H1) ∧ ∀ i m σ H, W i m σ H →
    ((Itt K a).stop i H ∧ D.nx σ H) ∨ ((Itt K a).go i H ∧ ∃ N : L2.St → Hp → Prop, (∀ σ' H', N σ' H' → ∃ m', m' < m ∧ W (i + 1) m' σ' H') ∧ ∀ x H', (Itt K a).yld i H x H' → g x σ H' fun σ2 H2 => tb { D with nx := N, ct := N, bk := D.nx } σ2 H2)) : tFor (iTup K tl) g tb D σ H := q
end My

local macro_rules | `(tactic| walk_at "rd1") => `(tactic| first
  | with_reducible refine My.r_seq ?_
  | with_reducible refine My.r_asg ?_
  | with_reducible refine My.r_name ?_
  | with_reducible refine My.r_cons ?_
  | with_reducible refine My.r_nil ?_
  | with_reducible refine My.r_op ?_
  | ((with_reducible refine My.r_var ?_); refine ⟨_, rfl, ?_⟩)
  | with_reducible refine My.r_c ?_
  | with_reducible refine My.r_I0 ?_
  | with_reducible refine My.r_eqI ?_
  | with_reducible refine My.r_neI ?_
  | with_reducible refine My.r_eqS ?_
  | with_reducible refine My.r_eqB ?_
  | with_reducible refine My.r_test ?_
  | with_reducible refine My.r_B ?_
  | with_reducible refine My.r_k ?_
  | with_reducible refine My.r_un ?_
  | with_reducible refine My.r_U ?_
  | with_reducible refine My.r_ifs ?_
  | with_reducible refine My.r_ret ?_
  | with_reducible refine My.r_next ?_
  | with_reducible refine My.r_drop ?_
  | with_reducible refine My.r_CB ?_
  | with_reducible refine My.r_call ?_
  | with_reducible refine My.r_callN ?_
  | with_reducible refine My.r_meth ?_
  | with_reducible refine My.r_make ?_
  | with_reducible refine My.r_tup ?_
  | with_reducible refine My.r_lst ?_
  | with_reducible refine My.r_fldT ?_
  | with_reducible refine My.r_sFld ?_
  | with_reducible refine My.r_and ?_
  | with_reducible refine My.r_or ?_
  | with_reducible refine My.r_not ?_
  | with_reducible refine My.r_andV ?_
  | with_reducible refine My.r_orV ?_
  | with_reducible refine My.r_notV ?_
  | with_reducible refine My.r_if ?_
  | with_reducible refine My.r_gsub ?_
  | with_reducible refine My.r_sl ?_
  | with_reducible refine My.r_noPart ?_
  | with_reducible refine My.r_part ?_
  | with_reducible refine My.r_ki ?_
  | with_reducible refine My.r_bm0 ?_
  | with_reducible refine My.r_bm ?_
  | with_reducible refine My.r_rev ?_
  | ((with_reducible refine My.r_I ?_ ?_); (first | decide | exact .inl ⟨by decide, by decide⟩ | exact .inr ⟨by decide, by decide⟩ | exact ⟨by decide, by decide⟩ | exact ⟨by decide, by decide, by decide⟩)))
local macro_rules | `(tactic| walk_at "rd") => `(tactic| (repeat walk_at "rd1"))


namespace My
/-! ### rounded twice -/
def isHalf : Way → Bool
  | .heven | .hodd | .hup | .hdown => true
  | _ => false
/-- at the middle beyond l: whether up -/
def tieUp : Way → Int → Bool
  | .hup, l => decide (0 ≤ l)
  | .hdown, l => decide (l < 0)
  | .heven, l => decide (l % 2 = 1)
  | .hodd, l => decide (l % 2 = 0)
  | _, _ => false
theorem nearerB_lo {p : Rat} {a : Bool} (h : p < 1 / 2) : nearerB p a = false := by
  have d := p.den_pos
  have e : p.num * 2 < 1 * (p.den : Int) := by
    have := (Rat.lt_iff p (1 / 2)).mp h
    have h1 : ((1 : Rat) / 2).num = 1 := by decide +kernel
    have h2 : ((1 : Rat) / 2).den = 2 := by decide +kernel
    rw [h1, h2] at this
    exact this
  unfold nearerB
  rw [if_neg (by omega)]
  exact decide_eq_false (by omega)
theorem nearerB_hi {p : Rat} {a : Bool} (h : 1 / 2 < p) : nearerB p a = true := by
  have d := p.den_pos
  have e : 1 * (p.den : Int) < p.num * 2 := by
    have := (Rat.lt_iff (1 / 2) p).mp h
    have h1 : ((1 : Rat) / 2).num = 1 := by decide +kernel
    have h2 : ((1 : Rat) / 2).den = 2 := by decide +kernel
    rw [h1, h2] at this
    exact this
  unfold nearerB
  rw [if_neg (by omega)]
  exact decide_eq_true (by omega)
theorem nearerB_mid (a : Bool) : nearerB (1 / 2) a = a := by cases a <;> decide +kernel
theorem ruleB_lo {r : Way} (h : isHalf r = true) (l : Int) {p : Rat} (hp : p < 1 / 2) : ruleB r l p = false := by
  cases r <;> first | exact absurd h (by decide) | exact nearerB_lo hp
theorem ruleB_hi {r : Way} (h : isHalf r = true) (l : Int) {p : Rat} (hp : 1 / 2 < p) : ruleB r l p = true := by
  cases r <;> first | exact absurd h (by decide) | exact nearerB_hi hp
theorem ruleB_mid {r : Way} (h : isHalf r = true) (l : Int) : ruleB r l (1 / 2) = tieUp r l := by
  cases r <;> first | exact absurd h (by decide) | exact nearerB_mid _
theorem taken_int (r : Way) (c : Int) : takenQ r (c : Rat) = c := by
  have e : partQ (c : Rat) = 0 := by unfold partQ; rw [Rat.floor_intCast]; grind
  unfold takenQ
  rw [e, Rat.floor_intCast]
  rfl
/-- nearer than a half -/
theorem taken_near {r : Way} (h : isHalf r = true) {n : Rat} {t : Int} (h1 : (t : Rat) - 1 / 2 < n) (h2 : n < (t : Rat) + 1 / 2) : takenQ r n = t := by
  by_cases h0 : n = (t : Rat)
  · rw [h0]
    exact taken_int r t
  · by_cases hp : (t : Rat) < n
    · have e : n = (t : Rat) + (n - t) := by grind
      rw [e, taken_add (by grind) (by grind), ruleB_lo h t (by grind)]
      rfl
    · have e : n = ((t - 1 : Int) : Rat) + (n - t + 1) := by rw [Rat.intCast_sub]; grind
      rw [e, taken_add (by grind) (by grind), ruleB_hi h (t - 1) (by grind)]
      show t - 1 + 1 = t
      omega
theorem taken_mid {r : Way} (h : isHalf r = true) (l : Int) : takenQ r ((l : Rat) + 1 / 2) = if tieUp r l = true then l + 1 else l := by
  rw [taken_add (by decide +kernel) (by decide +kernel), ruleB_mid h l]
/-- every number is near one, or in the middle -/
theorem near_or_mid (n : Rat) : (∃ t : Int, (t : Rat) - 1 / 2 < n ∧ n < (t : Rat) + 1 / 2) ∨ ∃ l : Int, n = (l : Rat) + 1 / 2 := by
  have a := Rat.floor_le n
  have b := Rat.lt_floor_add_one n
  rw [Rat.intCast_add] at b
  by_cases h : n = (n.floor : Rat) + 1 / 2
  · exact .inr ⟨_, h⟩
  · by_cases h2 : n < (n.floor : Rat) + 1 / 2
    · exact .inl ⟨n.floor, by grind, h2⟩
    · exact .inl ⟨n.floor + 1, by rw [Rat.intCast_add]; grind, by rw [Rat.intCast_add]; grind⟩
def twiceT (r : Way) (m : Int) (u : Rat) : Int := takenQ r ((takenQ r u : Rat) / (m : Rat))
def onceT (r : Way) (m : Int) (u : Rat) : Int := takenQ r (u / (m : Rat))
theorem div_near {r : Way} (h : isHalf r = true) {m : Int} (hm : 0 < m) {s : Int} {n : Rat} (h1 : (s : Rat) * m - (m : Rat) / 2 < n) (h2 : n < (s : Rat) * m + (m : Rat) / 2) : takenQ r (n / (m : Rat)) = s := by
  have hm' : (0 : Rat) < (m : Rat) := Rat.intCast_pos.mpr hm
  refine taken_near h ?_ ?_
  · exact (Rat.lt_div_iff hm').mpr (by grind)
  · exact (Rat.div_lt_iff hm').mpr (by grind)
theorem div_mid {r : Way} (h : isHalf r = true) {m : Int} (hm : 0 < m) {s : Int} {n : Rat} (h1 : n = (s : Rat) * m + (m : Rat) / 2) : takenQ r (n / (m : Rat)) = if tieUp r s = true then s + 1 else s := by
  have hm' : (m : Rat) ≠ 0 := by have : (0 : Rat) < (m : Rat) := Rat.intCast_pos.mpr hm; grind
  rw [← taken_mid h s, h1]
  congr 1
  grind
theorem split_odd (j h : Int) (h0 : 0 ≤ h) : ∃ s e : Int, j = s * (2 * h + 1) + e ∧ -h ≤ e ∧ e ≤ h := by
  refine ⟨(j + h) / (2 * h + 1), (j + h) % (2 * h + 1) - h, ?_, ?_, ?_⟩
  · have := Int.mul_ediv_add_emod (j + h) (2 * h + 1)
    rw [Int.mul_comm] at this
    omega
  · have := Int.emod_nonneg (j + h) (b := 2 * h + 1) (by omega)
    omega
  · have := Int.emod_lt_of_pos (j + h) (b := 2 * h + 1) (by omega)
    omega
/-- by an odd number of steps -/
theorem never_odd {r : Way} (hr : isHalf r = true) {h : Int} (h0 : 0 ≤ h) (tie : ∀ s : Int, tieUp r (s * (2 * h + 1) + h) = tieUp r s) (u : Rat) : twiceT r (2 * h + 1) u = onceT r (2 * h + 1) u := by
  have hm : 0 < 2 * h + 1 := by omega
  have c : (((2 * h + 1 : Int)) : Rat) = 2 * (h : Rat) + 1 := by rw [Rat.intCast_add, Rat.intCast_mul]; rfl
  have hq : (0 : Rat) ≤ (h : Rat) := Rat.intCast_nonneg.mpr h0
  unfold twiceT onceT
  rcases near_or_mid u with ⟨j, h1, h2⟩ | ⟨l, hl⟩
  · obtain ⟨s, e, ej, e1, e2⟩ := split_odd j h h0
    have q1 : -(h : Rat) ≤ (e : Rat) := by have := Rat.intCast_le_intCast.mpr e1; rw [Rat.intCast_neg] at this; exact this
    have q2 : (e : Rat) ≤ (h : Rat) := Rat.intCast_le_intCast.mpr e2
    have ejq : (j : Rat) = (s : Rat) * (2 * (h : Rat) + 1) + (e : Rat) := by rw [ej, Rat.intCast_add, Rat.intCast_mul, c]
    rw [taken_near hr h1 h2, div_near hr hm (s := s) (by rw [c]; grind) (by rw [c]; grind), div_near hr hm (s := s) (by rw [c]; grind) (by rw [c]; grind)]
  · obtain ⟨s, e, ej, e1, e2⟩ := split_odd l h h0
    have q1 : -(h : Rat) ≤ (e : Rat) := by have := Rat.intCast_le_intCast.mpr e1; rw [Rat.intCast_neg] at this; exact this
    have ejq : (l : Rat) = (s : Rat) * (2 * (h : Rat) + 1) + (e : Rat) := by rw [ej, Rat.intCast_add, Rat.intCast_mul, c]
    subst hl
    rw [taken_mid hr l]
    by_cases he : e = h
    · subst he
      rw [ej, tie s]
      rw [div_mid hr hm (s := s) (n := ((s * (2 * e + 1) + e : Int) : Rat) + 1 / 2) (by rw [← ej, ejq, c]; grind)]
      cases tieUp r s with
      | true =>
        rw [if_pos rfl, if_pos rfl]
        exact div_near hr hm (by simp only [Rat.intCast_add, Rat.intCast_mul, Rat.intCast_sub, Rat.intCast_ofNat, Rat.intCast_one]; grind) (by simp only [Rat.intCast_add, Rat.intCast_mul, Rat.intCast_sub, Rat.intCast_ofNat, Rat.intCast_one]; grind)
      | false =>
        rw [if_neg Bool.false_ne_true, if_neg Bool.false_ne_true]
        exact div_near hr hm (by simp only [Rat.intCast_add, Rat.intCast_mul, Rat.intCast_sub, Rat.intCast_ofNat, Rat.intCast_one]; grind) (by simp only [Rat.intCast_add, Rat.intCast_mul, Rat.intCast_sub, Rat.intCast_ofNat, Rat.intCast_one]; grind)
    · have q2 : (e : Rat) + 1 ≤ (h : Rat) := by
        have := Rat.intCast_le_intCast.mpr (show e + 1 ≤ h by omega)
        rw [Rat.intCast_add] at this
        exact this
      rw [div_near hr hm (s := s) (n := (l : Rat) + 1 / 2) (by rw [c]; grind) (by rw [c]; grind)]
      split
      · exact div_near hr hm (by simp only [Rat.intCast_add, Rat.intCast_mul, Rat.intCast_sub, Rat.intCast_ofNat, Rat.intCast_one]; grind) (by simp only [Rat.intCast_add, Rat.intCast_mul, Rat.intCast_sub, Rat.intCast_ofNat, Rat.intCast_one]; grind)
      · exact div_near hr hm (by rw [c]; grind) (by rw [c]; grind)
/-! ### the ways that look at no halves -/
theorem low_eq (n : Rat) : takenQ .low n = n.floor := by
  unfold takenQ
  split <;> rfl
theorem part_zero {n : Rat} : (partQ n).num = 0 ↔ n = (n.floor : Rat) := by
  rw [Rat.num_eq_zero]
  unfold partQ
  constructor <;> intro h <;> grind
/-- the greater neighbour is told by inequalities -/
theorem high_of {n : Rat} {t : Int} (h1 : (t : Rat) - 1 < n) (h2 : n ≤ (t : Rat)) : takenQ .high n = t := by
  have a := Rat.floor_le n
  have b := Rat.lt_floor_add_one n
  rw [Rat.intCast_add] at b
  unfold takenQ
  by_cases h : n = (n.floor : Rat)
  · rw [if_pos (part_zero.mpr h)]
    have x1 : n.floor < t + 1 := Rat.intCast_lt_intCast.mp (by rw [Rat.intCast_add]; grind)
    have x2 : t - 1 < n.floor := Rat.intCast_lt_intCast.mp (by rw [Rat.intCast_sub]; grind)
    omega
  · rw [if_neg (fun z => h (part_zero.mp z)), if_pos (show ruleB .high n.floor (partQ n) = true from rfl)]
    have x1 : n.floor < t := Rat.intCast_lt_intCast.mp (by grind)
    have x2 : t - 1 < n.floor + 1 := Rat.intCast_lt_intCast.mp (by rw [Rat.intCast_sub, Rat.intCast_add]; grind)
    omega
theorem high_is (n : Rat) : (takenQ .high n : Rat) - 1 < n ∧ n ≤ (takenQ .high n : Rat) := by
  have a := Rat.floor_le n
  have b := Rat.lt_floor_add_one n
  rw [Rat.intCast_add] at b
  unfold takenQ
  by_cases h : n = (n.floor : Rat)
  · rw [if_pos (part_zero.mpr h)]
    grind
  · rw [if_neg (fun z => h (part_zero.mp z)), if_pos (show ruleB .high n.floor (partQ n) = true from rfl), Rat.intCast_add]
    grind
theorem low_of {n : Rat} {t : Int} (h1 : (t : Rat) ≤ n) (h2 : n < (t : Rat) + 1) : takenQ .low n = t := by
  rw [low_eq]
  have x1 : t ≤ n.floor := Rat.le_floor_iff.mpr h1
  have x2 : n.floor < t + 1 := Rat.floor_lt_iff.mpr (by rw [Rat.intCast_add]; exact h2)
  omega
theorem up_eq (n : Rat) : takenQ .up n = if 0 ≤ n.floor then takenQ .high n else takenQ .low n := by
  unfold takenQ
  by_cases h : (partQ n).num = 0
  · rw [if_pos h, if_pos h, if_pos h]; split <;> rfl
  · rw [if_neg h, if_neg h, if_neg h]
    show (if decide (0 ≤ n.floor) = true then _ else _) = _
    by_cases z : 0 ≤ n.floor
    · rw [if_pos (decide_eq_true z), if_pos z]; rfl
    · rw [if_neg (by simpa using z), if_neg z]; rfl
theorem down_eq (n : Rat) : takenQ .down n = if n.floor < 0 then takenQ .high n else takenQ .low n := by
  unfold takenQ
  by_cases h : (partQ n).num = 0
  · rw [if_pos h, if_pos h, if_pos h]; split <;> rfl
  · rw [if_neg h, if_neg h, if_neg h]
    show (if decide (n.floor < 0) = true then _ else _) = _
    by_cases z : n.floor < 0
    · rw [if_pos (decide_eq_true z), if_pos z]; rfl
    · rw [if_neg (by simpa using z), if_neg z]; rfl
theorem low_is (n : Rat) : (takenQ .low n : Rat) ≤ n ∧ n < (takenQ .low n : Rat) + 1 := by
  rw [low_eq]
  have b := Rat.lt_floor_add_one n
  rw [Rat.intCast_add] at b
  exact ⟨Rat.floor_le n, b⟩
/-- of a whole number of steps: by wholes alone -/
theorem low_div {m : Int} (hm : 0 < m) (u : Rat) : takenQ .low ((takenQ .low u : Rat) / (m : Rat)) = takenQ .low (u / (m : Rat)) := by
  have hm' : (0 : Rat) < (m : Rat) := Rat.intCast_pos.mpr hm
  obtain ⟨a, b⟩ := low_is (u / (m : Rat))
  obtain ⟨c, d⟩ := low_is u
  generalize takenQ .low (u / (m : Rat)) = t at *
  generalize takenQ .low u = j at *
  have e : u / (m : Rat) * m = u := by grind
  have a' : (t : Rat) * m ≤ u := by rw [← e]; exact Rat.mul_le_mul_of_nonneg_right a (Rat.le_of_lt hm')
  have b' : u < ((t : Rat) + 1) * m := by rw [← e]; exact Rat.mul_lt_mul_of_pos_right b hm'
  have x1 : t * m < j + 1 := Rat.intCast_lt_intCast.mp (by rw [Rat.intCast_add, Rat.intCast_mul]; grind)
  have x2 : j < (t + 1) * m := Rat.intCast_lt_intCast.mp (by rw [Rat.intCast_mul, Rat.intCast_add]; grind)
  have y1 : (t : Rat) * m ≤ (j : Rat) := by rw [← Rat.intCast_mul]; exact Rat.intCast_le_intCast.mpr (by omega)
  have y2 : (j : Rat) < ((t : Rat) + 1) * m := by have := Rat.intCast_lt_intCast.mpr x2; rw [Rat.intCast_mul, Rat.intCast_add] at this; exact this
  refine low_of ?_ ((Rat.div_lt_iff hm').mpr y2)
  have := (Rat.not_lt (a := (j : Rat) / m) (b := (t : Rat))).mp (fun z => by
    have := (Rat.div_lt_iff hm').mp z
    grind)
  exact this
theorem high_div {m : Int} (hm : 0 < m) (u : Rat) : takenQ .high ((takenQ .high u : Rat) / (m : Rat)) = takenQ .high (u / (m : Rat)) := by
  have hm' : (0 : Rat) < (m : Rat) := Rat.intCast_pos.mpr hm
  obtain ⟨a, b⟩ := high_is (u / (m : Rat))
  obtain ⟨c, d⟩ := high_is u
  generalize takenQ .high (u / (m : Rat)) = t at *
  generalize takenQ .high u = j at *
  have e : u / (m : Rat) * m = u := by grind
  have a' : ((t : Rat) - 1) * m < u := by rw [← e]; exact Rat.mul_lt_mul_of_pos_right a hm'
  have b' : u ≤ (t : Rat) * m := by rw [← e]; exact Rat.mul_le_mul_of_nonneg_right b (Rat.le_of_lt hm')
  have x1 : (t - 1) * m < j := Rat.intCast_lt_intCast.mp (by rw [Rat.intCast_mul, Rat.intCast_sub]; grind)
  have x2 : j - 1 < t * m := Rat.intCast_lt_intCast.mp (by rw [Rat.intCast_sub, Rat.intCast_mul]; grind)
  have y1 : ((t : Rat) - 1) * m < (j : Rat) := by have := Rat.intCast_lt_intCast.mpr x1; rw [Rat.intCast_mul, Rat.intCast_sub] at this; exact this
  have y2 : (j : Rat) ≤ (t : Rat) * m := by rw [← Rat.intCast_mul]; exact Rat.intCast_le_intCast.mpr (by omega)
  refine high_of ((Rat.lt_div_iff hm').mpr y1) ?_
  exact (Rat.not_lt (a := (t : Rat)) (b := (j : Rat) / m)).mp (fun z => by
    have := (Rat.lt_div_iff hm').mp z
    grind)
theorem floor_nn {n : Rat} : 0 ≤ n.floor ↔ 0 ≤ n := by
  rw [Rat.le_floor_iff]; rfl
theorem div_nn {m : Int} (hm : 0 < m) {n : Rat} : 0 ≤ n / (m : Rat) ↔ 0 ≤ n := by
  have hm' : (0 : Rat) < (m : Rat) := Rat.intCast_pos.mpr hm
  constructor
  · intro h
    have e : n / (m : Rat) * m = n := by grind
    rw [← e]
    exact Rat.mul_nonneg h (Rat.le_of_lt hm')
  · intro h
    exact (Rat.not_lt).mp (fun z => by
      have := (Rat.div_lt_iff hm').mp z
      grind)
theorem never_whole {r : Way} (hr : isHalf r = false) {m : Int} (hm : 0 < m) (u : Rat) : twiceT r m u = onceT r m u := by
  unfold twiceT onceT
  cases r with
  | hup => cases hr
  | hdown => cases hr
  | heven => cases hr
  | hodd => cases hr
  | low => exact low_div hm u
  | high => exact high_div hm u
  | up =>
    obtain ⟨c, d⟩ := high_is u
    obtain ⟨c2, d2⟩ := low_is u
    by_cases h : 0 ≤ u
    · have hj : (0 : Rat) ≤ (takenQ .high u : Rat) := Rat.le_trans h d
      rw [up_eq u, if_pos (floor_nn.mpr h), up_eq, if_pos (floor_nn.mpr ((div_nn hm).mpr hj)), up_eq, if_pos (floor_nn.mpr ((div_nn hm).mpr h)), high_div hm]
    · have hj : ¬ (0 : Rat) ≤ (takenQ .low u : Rat) := fun z => h (Rat.le_trans z c2)
      rw [up_eq u, if_neg (fun z => h (floor_nn.mp z)), up_eq, if_neg (fun z => hj ((div_nn hm).mp (floor_nn.mp z))), up_eq, if_neg (fun z => h ((div_nn hm).mp (floor_nn.mp z))), low_div hm]
  | down =>
    obtain ⟨c, d⟩ := high_is u
    obtain ⟨c2, d2⟩ := low_is u
    have neg : ∀ n : Rat, n.floor < 0 ↔ ¬ 0 ≤ n := fun n => by
      rw [← floor_nn]
      omega
    by_cases h : 0 ≤ u
    · have j0 : 0 ≤ takenQ .low u := by rw [low_eq]; exact floor_nn.mpr h
      have hj : (0 : Rat) ≤ (takenQ .low u : Rat) := Rat.intCast_nonneg.mpr j0
      rw [down_eq u, if_neg (fun z => (neg u).mp z h), down_eq, if_neg (fun z => (neg _).mp z ((div_nn hm).mpr hj)), down_eq, if_neg (fun z => (neg _).mp z ((div_nn hm).mpr h)), low_div hm]
    · rw [down_eq u, if_pos ((neg u).mpr h), down_eq (u / (m : Rat)), if_pos ((neg _).mpr fun z => h ((div_nn hm).mp z)), ← high_div hm u]
      by_cases hj : 0 ≤ (takenQ .high u : Rat)
      · have e0 : takenQ .high u = 0 := by
          have x1 : 0 ≤ takenQ .high u := Rat.intCast_nonneg.mp hj
          have x2 : takenQ .high u - 1 < 0 := Rat.intCast_neg_iff.mp (by rw [Rat.intCast_sub]; grind)
          omega
        rw [e0]
        have e1 : ((0 : Int) : Rat) / (m : Rat) = ((0 : Int) : Rat) := by grind
        rw [e1, taken_int, taken_int]
      · rw [down_eq, if_pos ((neg _).mpr fun z => hj ((div_nn hm).mp z))]
/-! ### the three numbers that are tried -/
def partsW (r : Way) (m : Int) : Bool := isHalf r && (decide (m % 2 = 0) || ((match r with | .heven => true | .hodd => true | _ => false) && decide (m % 4 = 3)))
def candU (m : Int) : List Rat := [(m : Rat) / 2 - 1 / 4, (m : Rat) / 2, (m : Rat) / 2 + 1 / 4]
theorem never_of {r : Way} {m : Int} (hm : 2 ≤ m) (h : partsW r m = false) (u : Rat) : twiceT r m u = onceT r m u := by
  cases hr : isHalf r with
  | false => exact never_whole hr (by omega) u
  | true =>
    have hodd : m % 2 = 1 := by
      by_cases z : m % 2 = 0
      · unfold partsW at h
        rw [hr, decide_eq_true z] at h
        cases h
      · omega
    obtain ⟨k, rfl⟩ : ∃ k, m = 2 * k + 1 := ⟨m / 2, by omega⟩
    refine never_odd hr (by omega) (fun s => ?_) u
    have key : s * (2 * k + 1) + k = 2 * (s * k) + s + k := by grind
    cases r with
    | up => cases hr
    | down => cases hr
    | high => cases hr
    | low => cases hr
    | hup =>
      show decide (0 ≤ s * (2 * k + 1) + k) = decide (0 ≤ s)
      rw [decide_eq_decide]
      constructor
      · intro z
        by_cases q : 0 ≤ s
        · exact q
        · have : s * (2 * k + 1) ≤ -1 * (2 * k + 1) := Int.mul_le_mul_of_nonneg_right (by omega) (by omega)
          omega
      · intro z
        have := Int.mul_nonneg z (show 0 ≤ 2 * k + 1 by omega)
        omega
    | hdown =>
      show decide (s * (2 * k + 1) + k < 0) = decide (s < 0)
      rw [decide_eq_decide]
      constructor
      · intro z
        by_cases q : s < 0
        · exact q
        · have := Int.mul_nonneg (show 0 ≤ s by omega) (show 0 ≤ 2 * k + 1 by omega)
          omega
      · intro z
        have : s * (2 * k + 1) ≤ -1 * (2 * k + 1) := Int.mul_le_mul_of_nonneg_right (by omega) (by omega)
        omega
    | heven =>
      have h4 : ¬ (2 * k + 1) % 4 = 3 := fun z => by
        unfold partsW at h
        rw [decide_eq_true z, Bool.and_true, Bool.or_true] at h
        cases h
      show decide ((s * (2 * k + 1) + k) % 2 = 1) = decide (s % 2 = 1)
      rw [decide_eq_decide, key]
      omega
    | hodd =>
      have h4 : ¬ (2 * k + 1) % 4 = 3 := fun z => by
        unfold partsW at h
        rw [decide_eq_true z, Bool.and_true, Bool.or_true] at h
        cases h
      show decide ((s * (2 * k + 1) + k) % 2 = 0) = decide (s % 2 = 0)
      rw [decide_eq_decide, key]
      omega
theorem some_of {r : Way} {m : Int} (hm : 2 ≤ m) (h : partsW r m = true) : ∃ u ∈ candU m, twiceT r m u ≠ onceT r m u := by
  have hr : isHalf r = true := by
    unfold partsW at h
    exact (Bool.and_eq_true_iff.mp h).1
  have hmq : (2 : Rat) ≤ (m : Rat) := by have := Rat.intCast_le_intCast.mpr hm; exact this
  unfold twiceT onceT
  by_cases z : m % 2 = 0
  · obtain ⟨k, rfl⟩ : ∃ k, m = 2 * k := ⟨m / 2, by omega⟩
    have c : (((2 * k : Int)) : Rat) = 2 * (k : Rat) := by rw [Rat.intCast_mul]; rfl
    have hk : (1 : Rat) ≤ (k : Rat) := by have := Rat.intCast_le_intCast.mpr (show 1 ≤ k by omega); exact this
    have c0 : ((0 : Int) : Rat) = 0 := rfl
    have c1 : ((1 : Int) : Rat) = 1 := rfl
    have e1 : takenQ r ((((2 * k : Int)) : Rat) / 2 - 1 / 4) = k := taken_near hr (by rw [c]; grind) (by rw [c]; grind)
    have e3 : takenQ r ((((2 * k : Int)) : Rat) / 2 + 1 / 4) = k := taken_near hr (by rw [c]; grind) (by rw [c]; grind)
    have ek : takenQ r ((k : Rat) / ((2 * k : Int) : Rat)) = if tieUp r 0 = true then 0 + 1 else 0 := div_mid hr (by omega) (by rw [c, c0]; grind)
    cases t : tieUp r 0 with
    | true =>
      refine ⟨_, List.mem_cons_self, ?_⟩
      rw [e1, ek, t, if_pos rfl, div_near hr (by omega) (s := 0) (by rw [c, c0]; grind) (by rw [c, c0]; grind)]
      decide
    | false =>
      refine ⟨_, List.mem_cons_of_mem _ (List.mem_cons_of_mem _ List.mem_cons_self), ?_⟩
      rw [e3, ek, t, if_neg Bool.false_ne_true, div_near hr (by omega) (s := 1) (by rw [c, c1]; grind) (by rw [c, c1]; grind)]
      decide
  · obtain ⟨k, rfl⟩ : ∃ k, m = 2 * k + 1 := ⟨m / 2, by omega⟩
    have c : (((2 * k + 1 : Int)) : Rat) = 2 * (k : Rat) + 1 := by rw [Rat.intCast_add, Rat.intCast_mul]; rfl
    have hk : (1 : Rat) ≤ (k : Rat) := by have := Rat.intCast_le_intCast.mpr (show 1 ≤ k by omega); exact this
    have c0 : ((0 : Int) : Rat) = 0 := rfl
    have c1 : ((1 : Int) : Rat) = 1 := rfl
    have e2 : takenQ r ((((2 * k + 1 : Int)) : Rat) / 2) = if tieUp r k = true then k + 1 else k := by
      rw [← taken_mid hr k]
      congr 1
      rw [c]; grind
    have o2 : takenQ r ((((2 * k + 1 : Int)) : Rat) / 2 / ((2 * k + 1 : Int) : Rat)) = if tieUp r 0 = true then 0 + 1 else 0 := div_mid hr (by omega) (by rw [c0]; grind)
    have h4 : (2 * k + 1) % 4 = 3 ∧ (r = .heven ∨ r = .hodd) := by
      unfold partsW at h
      rw [hr, decide_eq_false z] at h
      cases r <;> simp_all
    refine ⟨_, List.mem_cons_of_mem _ List.mem_cons_self, ?_⟩
    have up1 : takenQ r (((k + 1 : Int) : Rat) / ((2 * k + 1 : Int) : Rat)) = 1 := div_near hr (by omega) (by simp only [Rat.intCast_add, Rat.intCast_mul, Rat.intCast_sub, Rat.intCast_ofNat, Rat.intCast_one]; grind) (by simp only [Rat.intCast_add, Rat.intCast_mul, Rat.intCast_sub, Rat.intCast_ofNat, Rat.intCast_one]; grind)
    have lo1 : takenQ r ((k : Rat) / ((2 * k + 1 : Int) : Rat)) = 0 := div_near hr (by omega) (by rw [c, c0]; grind) (by rw [c, c0]; grind)
    rw [e2, o2]
    obtain ⟨h4, rfl | rfl⟩ := h4
    · have t1 : tieUp .heven k = true := decide_eq_true (by omega)
      rw [t1, if_pos rfl, up1]
      decide
    · have t1 : tieUp .hodd k = false := decide_eq_false (by omega)
      rw [t1, if_neg Bool.false_ne_true, lo1]
      decide
end My

namespace My
/-! ### farther by whole numbers; sizes -/
theorem taken_within (r : Way) (u : Rat) : (takenQ r u : Rat) < u + 1 ∧ u - 1 < (takenQ r u : Rat) := by
  have a := Rat.floor_le u
  have b := Rat.lt_floor_add_one u
  rw [Rat.intCast_add] at b
  unfold takenQ
  by_cases h : u = (u.floor : Rat)
  · rw [if_pos (part_zero.mpr h)]
    grind
  · rw [if_neg (fun z => h (part_zero.mp z))]
    split
    · rw [Rat.intCast_add]; grind
    · grind
theorem floor_shift (u : Rat) (j : Int) : (u + (j : Rat)).floor = u.floor + j := by
  have a := Rat.floor_le u
  have b := Rat.lt_floor_add_one u
  rw [Rat.intCast_add] at b
  have x : u.floor + j ≤ (u + (j : Rat)).floor := Rat.le_floor_iff.mpr (by rw [Rat.intCast_add]; grind)
  have y : (u + (j : Rat)).floor < u.floor + j + 1 := Rat.floor_lt_iff.mpr (by rw [Rat.intCast_add, Rat.intCast_add]; grind)
  omega
theorem part_shift (u : Rat) (j : Int) : partQ (u + (j : Rat)) = partQ u := by
  unfold partQ
  rw [floor_shift, Rat.intCast_add]
  grind
theorem rule_shift (r : Way) {l j : Int} (p : Rat) (hl : 0 ≤ l) (hj : 0 ≤ j) (h2 : j % 2 = 0) : ruleB r (l + j) p = ruleB r l p := by
  have e1 : decide (0 ≤ l + j) = decide (0 ≤ l) := by rw [decide_eq_decide]; omega
  have e2 : decide (l + j < 0) = decide (l < 0) := by rw [decide_eq_decide]; omega
  have e3 : decide ((l + j) % 2 = 1) = decide (l % 2 = 1) := by rw [decide_eq_decide]; omega
  have e4 : decide ((l + j) % 2 = 0) = decide (l % 2 = 0) := by rw [decide_eq_decide]; omega
  cases r <;> simp only [ruleB, e1, e2, e3, e4]
theorem taken_shift (r : Way) {u : Rat} {j : Int} (hu : 0 ≤ u) (hj : 0 ≤ j) (h2 : j % 2 = 0) : takenQ r (u + (j : Rat)) = takenQ r u + j := by
  unfold takenQ
  rw [part_shift, floor_shift, rule_shift r _ (floor_nn.mpr hu) hj h2]
  split
  · rfl
  · split <;> omega
theorem taken_nn (r : Way) {u : Rat} (hu : 0 ≤ u) : 0 ≤ takenQ r u := by
  have := floor_nn.mpr hu
  unfold takenQ
  split
  · exact this
  · split <;> omega
theorem twice_shift (r : Way) {m j : Int} {u : Rat} (hm : 0 < m) (hu : 0 ≤ u) (hj : 0 ≤ j) (h2 : j % 2 = 0) : twiceT r m (u + (j : Rat) * m) = twiceT r m u + j ∧ onceT r m (u + (j : Rat) * m) = onceT r m u + j := by
  have hm' : (0 : Rat) < (m : Rat) := Rat.intCast_pos.mpr hm
  have h3 : j * m % 2 = 0 := by
    obtain ⟨q, rfl⟩ : ∃ q, j = 2 * q := ⟨j / 2, by omega⟩
    rw [Int.mul_assoc]; omega
  have h4 : 0 ≤ j * m := Int.mul_nonneg hj (by omega)
  have e : (j : Rat) * (m : Rat) = ((j * m : Int) : Rat) := (Rat.intCast_mul _ _).symm
  unfold twiceT onceT
  constructor
  · rw [e, taken_shift r hu h4 h3, Rat.intCast_add, Rat.intCast_mul]
    have q : ((takenQ r u : Rat) + (j : Rat) * (m : Rat)) / (m : Rat) = (takenQ r u : Rat) / (m : Rat) + (j : Rat) := by grind
    rw [q, taken_shift r ((div_nn hm).mpr (Rat.intCast_nonneg.mpr (taken_nn r hu))) hj h2]
  · have q : (u + (j : Rat) * (m : Rat)) / (m : Rat) = u / (m : Rat) + (j : Rat) := by grind
    rw [q, taken_shift r ((div_nn hm).mpr hu) hj h2]
def absQ (x : Rat) : Rat := Rat.divInt (if x.num < 0 then -x.num else x.num) (x.den : Int)
theorem absQ_eq (x : Rat) : absQ x = if 0 ≤ x then x else -x := by
  unfold absQ
  by_cases h : 0 ≤ x
  · have : 0 ≤ x.num := Rat.num_nonneg.mpr h
    rw [if_pos h, if_neg (by omega), Rat.num_divInt_den]
  · have : ¬ 0 ≤ x.num := fun z => h (Rat.num_nonneg.mp z)
    rw [if_neg h, if_pos (by omega), ← Rat.neg_divInt, Rat.num_divInt_den]
theorem absQ_lt {x y : Rat} (h1 : x < y) (h2 : -y < x) : absQ x < y := by
  rw [absQ_eq]
  split <;> grind
theorem absQ_bd {n : Nat} {x : Rat} (h : Bd n x) : Bd n (absQ x) := by
  have := h.1
  refine Bd.of (den_ne x) (by split <;> omega) (by have := h.2; omega)
theorem lt_dec (x y : Rat) : decide (x < y) = decide (x.num * (y.den : Int) < y.num * (x.den : Int)) := by
  rw [decide_eq_decide]
  exact Rat.lt_iff x y
/-- rounded, a number lies within a step -/
theorem step_within {r : Way} {n x : Rat} (hx : 0 < x) : absQ (n - x * (takenQ r (n / x) : Rat)) < x := by
  obtain ⟨a, b⟩ := taken_within r (n / x)
  have e : n = n / x * x := by grind
  have p : (takenQ r (n / x) : Rat) * x < (n / x + 1) * x := Rat.mul_lt_mul_of_pos_right a hx
  have q : (n / x - 1) * x < (takenQ r (n / x) : Rat) * x := Rat.mul_lt_mul_of_pos_right b hx
  refine absQ_lt ?_ ?_ <;> grind
end My

namespace My
/-! ### powers of ten -/
def T10 (p : Int) : Rat := (10 : Rat) ^ p
theorem T10_pos (p : Int) : 0 < T10 p := Rat.zpow_pos (by decide +kernel)
theorem T10_ne (p : Int) : T10 p ≠ 0 := by have := T10_pos p; grind
theorem T10_add (p q : Int) : T10 (p + q) = T10 p * T10 q := Rat.zpow_add (by decide +kernel) p q
theorem T10_zero : T10 0 = 1 := Rat.zpow_zero _
theorem T10_one : T10 1 = 10 := by
  have := Rat.zpow_add_one (q := 10) (by decide +kernel) 0
  rw [Rat.zpow_zero] at this
  show (10 : Rat) ^ (1 : Int) = 10
  rw [show (1 : Int) = 0 + 1 from rfl, this]
  grind
theorem T10_succ (p : Int) : T10 (p + 1) = T10 p * 10 := by rw [T10_add, T10_one]
theorem T10_nat (n : Nat) : T10 (n : Int) = ((10 ^ n : Int) : Rat) := by
  induction n with
  | zero => exact T10_zero
  | succ n ih =>
    rw [Int.natCast_succ, T10_succ, ih, Int.pow_succ, Rat.intCast_mul]
    rfl
theorem T10_neg (p : Int) : T10 (-p) = 1 / T10 p := by
  have : T10 (-p) * T10 p = 1 := by rw [← T10_add, Int.add_left_neg]; exact T10_zero
  have := T10_ne p
  grind
theorem T10_lt_nat (p : Int) (n : Nat) : T10 p < T10 (p + ((n : Int) + 1)) := by
  have hp := T10_pos p
  induction n with
  | zero =>
    show T10 p < T10 (p + 1)
    rw [T10_succ]
    grind
  | succ n ih =>
    have e : p + (((n + 1 : Nat) : Int) + 1) = p + ((n : Int) + 1) + 1 := by omega
    have := T10_pos (p + ((n : Int) + 1))
    rw [e, T10_succ]
    grind
theorem T10_lt {p q : Int} (h : p < q) : T10 p < T10 q := by
  have := T10_lt_nat p (q - p - 1).toNat
  have e : p + (((q - p - 1).toNat : Int) + 1) = q := by omega
  rw [e] at this
  exact this
theorem T10_le {p q : Int} (h : p ≤ q) : T10 p ≤ T10 q := by
  by_cases e : p = q
  · rw [e]; exact Rat.le_refl
  · exact Rat.le_of_lt (T10_lt (by omega))
theorem T10_lt_iff {p q : Int} : T10 p < T10 q ↔ p < q := by
  constructor
  · intro h
    by_cases z : p < q
    · exact z
    · have := T10_le (show q ≤ p by omega)
      grind
  · exact T10_lt
/-- the power of x -/
def Pow (p : Int) (x : Rat) : Prop := T10 p ≤ absQ x ∧ absQ x < T10 (p + 1)
theorem absQ_mul_pos {x t : Rat} (ht : 0 < t) : absQ (x * t) = absQ x * t := by
  rw [absQ_eq, absQ_eq]
  by_cases h : 0 ≤ x
  · have : 0 ≤ x * t := Rat.mul_nonneg h (Rat.le_of_lt ht)
    rw [if_pos this, if_pos h]
  · have h' : 0 < -x := by grind
    have : 0 < -x * t := Rat.mul_pos h' ht
    rw [if_neg (by grind), if_neg h]
    grind
theorem absQ_neg (x : Rat) : absQ (-x) = absQ x := by
  rw [absQ_eq, absQ_eq]
  split <;> split <;> grind
theorem absQ_nn (x : Rat) : 0 ≤ absQ x := by
  rw [absQ_eq]; split <;> grind
theorem Pow.mul {p k : Int} {x : Rat} (h : Pow p x) : Pow (p + k) (x * T10 k) := by
  have hk := T10_pos k
  unfold Pow at h ⊢
  rw [absQ_mul_pos hk, show p + k + 1 = (p + 1) + k by omega, T10_add, T10_add]
  exact ⟨Rat.mul_le_mul_of_nonneg_right h.1 (Rat.le_of_lt hk), Rat.mul_lt_mul_of_pos_right h.2 hk⟩
theorem Pow.neg {p : Int} {x : Rat} (h : Pow p x) : Pow p (-x) := by
  unfold Pow at h ⊢
  rw [absQ_neg]
  exact h
theorem Pow.ne {p : Int} {x : Rat} (h : Pow p x) : x ≠ 0 := by
  intro e
  have := h.1
  have := T10_pos p
  rw [e, absQ_eq, if_pos (by decide +kernel)] at *
  grind
theorem pow10_lt (n : Nat) : (10 ^ n : Int).natAbs < 2 ^ (4 * n + 1) := by
  rw [Int.natAbs_pow]
  have : (10 : Nat) ^ n ≤ (2 ^ 4) ^ n := Nat.pow_le_pow_left (by decide) n
  rw [← Nat.pow_mul] at this
  have h2 : 2 ^ (4 * n) < 2 ^ (4 * n + 1) := Nat.pow_lt_pow_right (by decide) (by omega)
  exact Nat.lt_of_le_of_lt this h2
theorem T10_bd {p : Int} {k : Nat} (h : p.natAbs ≤ k) : Bd (4 * k + 1) (T10 p) := by
  have b := Nat.lt_of_lt_of_le (pow10_lt p.natAbs) (Nat.pow_le_pow_right (by decide : 0 < 2) (show 4 * p.natAbs + 1 ≤ 4 * k + 1 by omega))
  by_cases z : 0 ≤ p
  · have e : p = (p.natAbs : Int) := by omega
    rw [e, T10_nat]
    exact Bd.int b (by omega)
  · have e : p = -(p.natAbs : Int) := by omega
    rw [e, T10_neg, T10_nat]
    have e2 : 1 / (((10 ^ p.natAbs : Int)) : Rat) = Rat.divInt 1 (10 ^ p.natAbs : Int) := by rw [Rat.divInt_eq_div]; rfl
    rw [e2]
    exact Bd.of (Int.pow_ne_zero (by decide)) (Nat.lt_of_lt_of_le (by decide : Int.natAbs 1 < 2 ^ 1) (Nat.pow_le_pow_right (by decide) (by omega))) b
/-! ### to so many figures -/
def figQ (r : Way) (c p : Int) (x : Rat) : Rat := T10 (p - c + 1) * (takenQ r (x / T10 (p - c + 1)) : Rat)
theorem fig_stay {r : Way} {c p m : Int} {x : Rat} (h : x / T10 (p - c + 1) = (m : Rat)) : figQ r c p x = x := by
  have := T10_ne (p - c + 1)
  unfold figQ
  rw [h, taken_int, ← h]
  grind
theorem fig_mul {r : Way} {c p k : Int} {x : Rat} : figQ r c (p + k) (x * T10 k) = figQ r c p x * T10 k := by
  have h1 := T10_ne (p - c + 1)
  have h2 := T10_ne k
  unfold figQ
  rw [show p + k - c + 1 = (p - c + 1) + k by omega, T10_add]
  have e : x * T10 k / (T10 (p - c + 1) * T10 k) = x / T10 (p - c + 1) := by grind
  rw [e]
  grind
def turnW : Way → Way
  | .high => .low
  | .low => .high
  | r => r
theorem floor_of {n : Rat} {l : Int} (h1 : (l : Rat) ≤ n) (h2 : n < (l : Rat) + 1) : n.floor = l := by
  have a : l ≤ n.floor := Rat.le_floor_iff.mpr h1
  have b : n.floor < l + 1 := Rat.floor_lt_iff.mpr (by rw [Rat.intCast_add]; exact h2)
  omega
theorem nearerB_neg {p : Rat} {a : Bool} : nearerB (1 - p) (!a) = !nearerB p a := by
  by_cases h : p < 1 / 2
  · rw [nearerB_lo h, nearerB_hi (by grind)]; rfl
  · by_cases h2 : p = 1 / 2
    · have e : 1 - p = 1 / 2 := by grind
      rw [e, h2, nearerB_mid, nearerB_mid]
    · rw [nearerB_lo (p := 1 - p) (by grind), nearerB_hi (p := p) (by grind)]; rfl
theorem taken_neg (r : Way) (u : Rat) : takenQ (turnW r) (-u) = -takenQ r u := by
  by_cases h : u = (u.floor : Rat)
  · rw [h, ← Rat.intCast_neg, taken_int, taken_int]
  · have a := Rat.floor_le u
    have b := Rat.lt_floor_add_one u
    rw [Rat.intCast_add] at b
    have e1 : u = (u.floor : Rat) + (u - (u.floor : Rat)) := by grind
    have e2 : -u = (((-u.floor - 1 : Int)) : Rat) + (1 - (u - (u.floor : Rat))) := by rw [Rat.intCast_sub, Rat.intCast_neg]; grind
    generalize u.floor = l at *
    rw [e2, taken_add (by grind) (by grind)]
    have t : takenQ r u = if ruleB r l (u - l) = true then l + 1 else l := by
      conv => lhs; rw [e1]
      exact taken_add (by grind) (by grind)
    rw [t]
    have key : ruleB (turnW r) (-l - 1) (1 - (u - l)) = !ruleB r l (u - l) := by
      have f1 : decide (0 ≤ -l - 1) = !decide (0 ≤ l) := by
        by_cases z : 0 ≤ l
        · rw [decide_eq_true z, decide_eq_false (by omega)]; rfl
        · rw [decide_eq_false z, decide_eq_true (by omega)]; rfl
      have f2 : decide (-l - 1 < 0) = !decide (l < 0) := by
        by_cases z : l < 0
        · rw [decide_eq_true z, decide_eq_false (by omega)]; rfl
        · rw [decide_eq_false z, decide_eq_true (by omega)]; rfl
      have f3 : decide ((-l - 1) % 2 = 1) = !decide (l % 2 = 1) := by
        by_cases z : l % 2 = 1
        · rw [decide_eq_true z, decide_eq_false (by omega)]; rfl
        · rw [decide_eq_false z, decide_eq_true (by omega)]; rfl
      have f4 : decide ((-l - 1) % 2 = 0) = !decide (l % 2 = 0) := by
        by_cases z : l % 2 = 0
        · rw [decide_eq_true z, decide_eq_false (by omega)]; rfl
        · rw [decide_eq_false z, decide_eq_true (by omega)]; rfl
      cases r <;> simp only [turnW, ruleB, f1, f2, f3, f4, nearerB_neg, Bool.not_true, Bool.not_false]
    rw [key]
    cases ruleB r l (u - l) with
    | true =>
      rw [if_neg (by simp), if_pos rfl]
      omega
    | false =>
      rw [if_pos (by simp), if_neg (by simp)]
      omega
theorem fig_neg {r : Way} {c p : Int} {x : Rat} : figQ (turnW r) c p (-x) = -figQ r c p x := by
  unfold figQ
  have e : -x / T10 (p - c + 1) = -(x / T10 (p - c + 1)) := by have := T10_ne (p - c + 1); grind
  rw [e, taken_neg, Rat.intCast_neg]
  grind
end My

namespace My
theorem pow_step {q : Rat} {a : Int} (h1 : T10 a ≤ q) : ∀ m : Nat, q < T10 (a + (m : Int)) → ∃ p, a ≤ p ∧ p < a + (m : Int) ∧ T10 p ≤ q ∧ q < T10 (p + 1)
  | 0, h => by
    rw [show a + ((0 : Nat) : Int) = a by omega] at h
    grind
  | m + 1, h => by
    by_cases z : q < T10 (a + (m : Int))
    · obtain ⟨p, p1, p2, p3, p4⟩ := pow_step h1 m z
      exact ⟨p, p1, by omega, p3, p4⟩
    · refine ⟨a + (m : Int), by omega, by omega, by grind, ?_⟩
      rw [show a + (m : Int) + 1 = a + ((m + 1 : Nat) : Int) by omega]
      exact h
theorem absQ_div {t b : Int} (hb : 0 < b) : absQ (Rat.divInt t b) = ((t.natAbs : Int) : Rat) / (b : Rat) := by
  have hb' : (0 : Rat) < (b : Rat) := Rat.intCast_pos.mpr hb
  have ib : (0 : Rat) < 1 / (b : Rat) := (Rat.lt_div_iff hb').mpr (by grind)
  have e : Rat.divInt t b = (t : Rat) * (1 / (b : Rat)) := by rw [Rat.divInt_eq_div]; grind
  rw [e, absQ_mul_pos ib, absQ_eq]
  have n : (if 0 ≤ (t : Rat) then (t : Rat) else -(t : Rat)) = ((t.natAbs : Int) : Rat) := by
    by_cases h : 0 ≤ t
    · rw [if_pos (Rat.intCast_nonneg.mpr h)]
      congr 1; omega
    · rw [if_neg (fun z => h (Rat.intCast_nonneg.mp z)), ← Rat.intCast_neg]
      congr 1; omega
  rw [n]
  grind
theorem le_div {x y z : Rat} (hz : 0 < z) (h : x * z ≤ y) : x ≤ y / z := by
  refine Rat.not_lt.mp fun q => ?_
  have := (Rat.div_lt_iff hz).mp q
  grind
/-- the power, found by whole numbers -/
theorem pow_grain {t b : Int} {i j : Nat} (hb : 0 < b) (h1 : (10 : Int) ^ i * b ≤ (10 : Int) ^ j * (t.natAbs : Int)) (h2 : (10 : Int) ^ j * (t.natAbs : Int) < 10 * ((10 : Int) ^ i * b)) : Pow ((i : Int) - (j : Int)) (Rat.divInt t b) := by
  have hb' : (0 : Rat) < (b : Rat) := Rat.intCast_pos.mpr hb
  have hj := T10_pos (j : Int)
  have h1' := Rat.intCast_le_intCast.mpr h1
  have h2' := Rat.intCast_lt_intCast.mpr h2
  have e10 : ((10 : Int) : Rat) = 10 := rfl
  rw [Rat.intCast_mul, Rat.intCast_mul, ← T10_nat, ← T10_nat] at h1'
  rw [Rat.intCast_mul, Rat.intCast_mul, Rat.intCast_mul, ← T10_nat, ← T10_nat, e10] at h2'
  have split : T10 (i : Int) = T10 ((i : Int) - (j : Int)) * T10 (j : Int) := by rw [← T10_add]; congr 1; omega
  rw [split] at h1' h2'
  unfold Pow
  rw [absQ_div hb, T10_succ]
  generalize T10 ((i : Int) - (j : Int)) = u at *
  generalize T10 (j : Int) = v at *
  generalize ((t.natAbs : Int) : Rat) = y at *
  generalize (b : Rat) = z at *
  constructor
  · refine le_div hb' (Rat.not_lt.mp fun q => ?_)
    have := Rat.mul_lt_mul_of_pos_right q hj
    grind
  · refine (Rat.div_lt_iff hb').mpr ?_
    refine Rat.not_le.mp fun q => ?_
    have := Rat.mul_le_mul_of_nonneg_right q (Rat.le_of_lt hj)
    grind
theorem pow_unique {p p' : Int} {x : Rat} (h : Pow p x) (h' : Pow p' x) : p = p' := by
  have a : p < p' + 1 := T10_lt_iff.mp (by have := h.1; have := h'.2; grind)
  have b : p' < p + 1 := T10_lt_iff.mp (by have := h'.1; have := h.2; grind)
  omega
theorem pow_there {t b : Int} (t0 : t ≠ 0) (hb : 0 < b) {i j : Nat} (ht : (t.natAbs : Int) < (10 : Int) ^ i) (hj : b ≤ (10 : Int) ^ j) : ∃ p : Int, -(j : Int) ≤ p ∧ p < (i : Int) ∧ Pow p (Rat.divInt t b) := by
  have hb' : (0 : Rat) < (b : Rat) := Rat.intCast_pos.mpr hb
  have t1 : ((1 : Int) : Rat) ≤ ((t.natAbs : Int) : Rat) := Rat.intCast_le_intCast.mpr (by omega)
  have b1 : ((1 : Int) : Rat) ≤ (b : Rat) := Rat.intCast_le_intCast.mpr (by omega)
  have e1 : ((1 : Int) : Rat) = 1 := rfl
  rw [e1] at t1 b1
  have ht' := Rat.intCast_lt_intCast.mpr ht
  have hj' := Rat.intCast_le_intCast.mpr hj
  rw [← T10_nat] at ht' hj'
  have pj := T10_pos (j : Int)
  have pi := T10_pos (i : Int)
  have nj := T10_ne (j : Int)
  have lo : T10 (-(j : Int)) ≤ absQ (Rat.divInt t b) := by
    rw [absQ_div hb, T10_neg]
    refine le_div hb' ?_
    have q : 1 / T10 (j : Int) * (b : Rat) ≤ 1 := by
      have e : 1 / T10 (j : Int) * (b : Rat) = (b : Rat) / T10 (j : Int) := by grind
      rw [e]
      refine Rat.not_lt.mp fun q => ?_
      have := (Rat.lt_div_iff pj).mp q
      grind
    grind
  have hi : absQ (Rat.divInt t b) < T10 (-(j : Int) + ((i + j : Nat) : Int)) := by
    rw [absQ_div hb, show -(j : Int) + ((i + j : Nat) : Int) = (i : Int) by omega]
    refine (Rat.div_lt_iff hb').mpr ?_
    have := Rat.mul_le_mul_of_nonneg_left b1 (Rat.le_of_lt pi)
    grind
  obtain ⟨p, p1, p2, p3, p4⟩ := pow_step lo _ hi
  exact ⟨p, p1, by omega, p3, p4⟩
end My

namespace My
/-! ### the shortest figures that lead back -/
def nearL (u : Rat) : Int := if (partQ u).num = 0 then u.floor else if ((partQ u).den : Int) < 2 * (partQ u).num then u.floor + 1 else u.floor
theorem nearL_is (u : Rat) : (nearL u : Rat) - 1 / 2 < u ∧ u ≤ (nearL u : Rat) + 1 / 2 := by
  have a := Rat.floor_le u
  have b := Rat.lt_floor_add_one u
  rw [Rat.intCast_add] at b
  have e : partQ u = u - (u.floor : Rat) := rfl
  unfold nearL
  by_cases h : u = (u.floor : Rat)
  · rw [if_pos (part_zero.mpr h)]
    grind
  · rw [if_neg (fun z => h (part_zero.mp z))]
    have key : ((partQ u).den : Int) < 2 * (partQ u).num ↔ 1 / 2 < partQ u := by
      by_cases h1 : 1 / 2 < partQ u
      · have := nearerB_hi (a := false) h1
        unfold nearerB at this
        split at this
        · cases this
        · exact ⟨fun _ => h1, fun _ => of_decide_eq_true this⟩
      · refine ⟨fun z => ?_, fun z => absurd z h1⟩
        by_cases h2 : partQ u = 1 / 2
        · rw [h2] at z
          exact absurd z (by decide +kernel)
        · have := nearerB_lo (a := true) (show partQ u < 1 / 2 by grind)
          unfold nearerB at this
          split at this
          · cases this
          · exact absurd z (of_decide_eq_false this)
    by_cases h1 : 1 / 2 < partQ u
    · rw [if_pos (key.mpr h1), Rat.intCast_add]
      grind
    · rw [if_neg (fun z => h1 (key.mp z))]
      grind
theorem nearL_best (u : Rat) (c : Int) : absQ ((nearL u : Rat) - u) ≤ absQ ((c : Rat) - u) := by
  obtain ⟨a, b⟩ := nearL_is u
  generalize nearL u = t at *
  by_cases h : c = t
  · rw [h]; exact Rat.le_refl
  · rw [absQ_eq, absQ_eq]
    by_cases h2 : c < t
    · have : (c : Rat) + 1 ≤ (t : Rat) := by
        have := Rat.intCast_le_intCast.mpr (show c + 1 ≤ t by omega)
        rw [Rat.intCast_add] at this
        exact this
      split <;> split <;> grind
    · have : (t : Rat) + 1 ≤ (c : Rat) := by
        have := Rat.intCast_le_intCast.mpr (show t + 1 ≤ c by omega)
        rw [Rat.intCast_add] at this
        exact this
      split <;> split <;> grind
/-- how far the nearest of so many places is off -/
def dL (x : Rat) (p : Int) : Rat := absQ ((nearL (x * T10 p) : Rat) * T10 (-p) - x)
theorem T10_inv (p : Int) : T10 p * T10 (-p) = 1 := by rw [← T10_add, Int.add_right_neg]; exact T10_zero
theorem off_scale (x : Rat) (c : Rat) (p : Int) : absQ (c * T10 (-p) - x) = absQ (c - x * T10 p) * T10 (-p) := by
  rw [← absQ_mul_pos (T10_pos (-p))]
  have := T10_inv p
  congr 1
  grind
theorem dL_best (x : Rat) (p c : Int) : dL x p ≤ absQ ((c : Rat) * T10 (-p) - x) := by
  unfold dL
  rw [off_scale, off_scale]
  exact Rat.mul_le_mul_of_nonneg_right (nearL_best _ c) (Rat.le_of_lt (T10_pos _))
theorem dL_succ (x : Rat) (p : Int) : dL x (p + 1) ≤ dL x p := by
  have := dL_best x (p + 1) (nearL (x * T10 p) * 10)
  have e : ((nearL (x * T10 p) * 10 : Int) : Rat) * T10 (-(p + 1)) = (nearL (x * T10 p) : Rat) * T10 (-p) := by
    rw [Rat.intCast_mul, show -p = -(p + 1) + 1 by omega, T10_succ]
    have : ((10 : Int) : Rat) = 10 := rfl
    grind
  rw [e] at this
  exact this
theorem dL_mono_nat (x : Rat) (p : Int) : ∀ n : Nat, dL x (p + (n : Int)) ≤ dL x p
  | 0 => by rw [show p + ((0 : Nat) : Int) = p by omega]; exact Rat.le_refl
  | n + 1 => by
    rw [show p + ((n + 1 : Nat) : Int) = p + (n : Int) + 1 by omega]
    exact Rat.le_trans (dL_succ _ _) (dL_mono_nat x p n)
theorem dL_mono (x : Rat) {p q : Int} (h : p ≤ q) : dL x q ≤ dL x p := by
  have := dL_mono_nat x p (q - p).toNat
  rw [show p + ((q - p).toNat : Int) = q by omega] at this
  exact this
/-- so little off leads back to so many steps -/
def okd (y : Rat) (m : Int) (d : Rat) : Prop := d < y / 2 ∨ (d = y / 2 ∧ m % 2 = 0)
theorem okd.le {y : Rat} {m : Int} {d e : Rat} (h : okd y m d) (l : e ≤ d) : okd y m e := by
  unfold okd at *
  rcases h with h | ⟨h, z⟩
  · exact .inl (by grind)
  · by_cases g : e < y / 2
    · exact .inl g
    · exact .inr ⟨by grind, z⟩
theorem heven_iff {y z : Rat} {m : Int} (hy : 0 < y) : takenQ .heven (z / y) = m ↔ okd y m (absQ (z - (m : Rat) * y)) := by
  have e : absQ (z - (m : Rat) * y) = absQ (z / y - (m : Rat)) * y := by
    rw [← absQ_mul_pos hy]
    congr 1
    grind
  rw [e]
  generalize z / y = u
  have key : okd y m (absQ (u - (m : Rat)) * y) ↔ (absQ (u - (m : Rat)) < 1 / 2 ∨ (absQ (u - (m : Rat)) = 1 / 2 ∧ m % 2 = 0)) := by
    unfold okd
    generalize absQ (u - (m : Rat)) = d
    constructor
    · rintro (h | ⟨h, g⟩)
      · refine .inl (Rat.not_le.mp fun q => ?_)
        have := Rat.mul_le_mul_of_nonneg_right q (Rat.le_of_lt hy)
        grind
      · refine .inr ⟨?_, g⟩
        have : (d - 1 / 2) * y = 0 := by grind
        rcases Rat.mul_eq_zero.mp this with h | h
        · grind
        · grind
    · rintro (h | ⟨h, g⟩)
      · have := Rat.mul_lt_mul_of_pos_right h hy
        exact .inl (by grind)
      · exact .inr ⟨by rw [h]; grind, g⟩
  rw [key, absQ_eq]
  rcases near_or_mid u with ⟨t, h1, h2⟩ | ⟨l, hl⟩
  · rw [taken_near rfl h1 h2]
    constructor
    · rintro rfl
      left
      split <;> grind
    · intro h
      have hh : (if 0 ≤ u - (m : Rat) then u - (m : Rat) else -(u - (m : Rat))) ≤ 1 / 2 := by
        rcases h with h | ⟨h, _⟩
        · exact Rat.le_of_lt h
        · rw [h]; exact Rat.le_refl
      clear h key e
      have a : (m : Rat) < (t : Rat) + 1 := by split at hh <;> grind
      have b : (t : Rat) < (m : Rat) + 1 := by split at hh <;> grind
      have a' : m < t + 1 := Rat.intCast_lt_intCast.mp (by rw [Rat.intCast_add]; exact a)
      have b' : t < m + 1 := Rat.intCast_lt_intCast.mp (by rw [Rat.intCast_add]; exact b)
      omega
  · subst hl
    rw [taken_mid rfl]
    have tu : tieUp .heven l = decide (l % 2 = 1) := rfl
    rw [tu]
    constructor
    · intro h
      right
      by_cases z : l % 2 = 1
      · rw [if_pos (decide_eq_true z)] at h
        subst h
        rw [Rat.intCast_add]
        have : ((1 : Int) : Rat) = 1 := rfl
        refine ⟨by split <;> grind, by omega⟩
      · rw [if_neg (by simpa using z)] at h
        subst h
        refine ⟨by split <;> grind, by omega⟩
    · intro h
      have a : (m : Rat) < (l : Rat) + 2 := by split at h <;> grind
      have b : (l : Rat) < (m : Rat) + 1 := by split at h <;> grind
      have a' : m < l + 2 := Rat.intCast_lt_intCast.mp (by rw [Rat.intCast_add]; exact a)
      have b' : l < m + 1 := Rat.intCast_lt_intCast.mp (by rw [Rat.intCast_add]; exact b)
      have ev : m % 2 = 0 := by
        rcases h with h | h
        · exfalso
          have c : m = l ∨ m = l + 1 := by omega
          rcases c with rfl | rfl
          · split at h <;> grind
          · rw [Rat.intCast_add] at h
            have : ((1 : Int) : Rat) = 1 := rfl
            split at h <;> grind
        · exact h.2
      by_cases z : l % 2 = 1
      · rw [if_pos (decide_eq_true z)]; omega
      · rw [if_neg (by simpa using z)]; omega
/-- a count of so many places is rounded to the kept number -/
def backQ (c p : Int) (x y : Rat) : Bool := decide (y * (takenQ .heven ((c : Rat) * T10 (-p) / y) : Rat) = x)
theorem backQ_iff {c p m : Int} {x y : Rat} (hy : 0 < y) (hx : x = (m : Rat) * y) : backQ c p x y = true ↔ okd y m (absQ ((c : Rat) * T10 (-p) - x)) := by
  unfold backQ
  rw [decide_eq_true_eq]
  conv => rhs; rw [hx]
  rw [← heven_iff hy, hx]
  constructor
  · intro h
    have : ((takenQ .heven ((c : Rat) * T10 (-p) / y) : Rat) - (m : Rat)) * y = 0 := by grind
    rcases Rat.mul_eq_zero.mp this with h | h
    · exact Rat.intCast_inj.mp (by grind)
    · grind
  · intro h
    rw [h]; grind
/-- the nearest one leads back -/
def lbQ (x y : Rat) (p : Int) : Bool := backQ (nearL (x * T10 p)) p x y
theorem lbQ_iff {p m : Int} {x y : Rat} (hy : 0 < y) (hx : x = (m : Rat) * y) : lbQ x y p = true ↔ okd y m (dL x p) := backQ_iff hy hx
theorem lb_of_back {c p m : Int} {x y : Rat} (hy : 0 < y) (hx : x = (m : Rat) * y) (h : backQ c p x y = true) : lbQ x y p = true :=
  (lbQ_iff hy hx).mpr (((backQ_iff hy hx).mp h).le (dL_best _ _ _))
theorem lb_mono {p q m : Int} {x y : Rat} (hy : 0 < y) (hx : x = (m : Rat) * y) (l : p ≤ q) (h : lbQ x y p = true) : lbQ x y q = true :=
  (lbQ_iff hy hx).mpr (((lbQ_iff hy hx).mp h).le (dL_mono _ l))
/-- so fine a last place leads back -/
theorem lb_fine {p m : Int} {x y : Rat} (hy : 0 < y) (hx : x = (m : Rat) * y) (h : T10 (-p) ≤ y) : lbQ x y p = true := by
  rw [lbQ_iff hy hx]
  have d1 : dL x p ≤ T10 (-p) / 2 := by
    unfold dL
    rw [off_scale]
    obtain ⟨a, b⟩ := nearL_is (x * T10 p)
    have : absQ ((nearL (x * T10 p) : Rat) - x * T10 p) ≤ 1 / 2 := by
      rw [absQ_eq]
      split <;> grind
    have := Rat.mul_le_mul_of_nonneg_right this (Rat.le_of_lt (T10_pos (-p)))
    grind
  by_cases g : T10 (-p) = y
  · have : dL x p ≤ 0 := by
      have b := dL_best x p m
      have e : (m : Rat) * T10 (-p) - x = 0 := by rw [g]; grind
      rw [e, absQ_eq, if_pos (by decide +kernel)] at b
      exact b
    exact .inl (by grind)
  · exact .inl (by grind)
theorem lb_power {p m : Int} {x y : Rat} (hy : 0 < y) (hx : x = (m : Rat) * y) (h : Pow p y) : lbQ x y (if 0 < -p then -p else 0) = true := by
  have h1 := h.1
  rw [absQ_eq, if_pos (Rat.le_of_lt hy)] at h1
  refine lb_fine hy hx ?_
  split
  · rw [Int.neg_neg]; exact h1
  · exact Rat.le_trans (T10_le (by omega)) h1
/-- as few places as can be -/
def Fewest (x y : Rat) (P : Int) : Prop := 0 ≤ P ∧ lbQ x y P = true ∧ ∀ p, 0 ≤ p → p < P → lbQ x y p = false
theorem Fewest.le {x y : Rat} {P p m c : Int} (h : Fewest x y P) (hy : 0 < y) (hx : x = (m : Rat) * y) (hp : 0 ≤ p) (b : backQ c p x y = true) : P ≤ p := by
  by_cases z : P ≤ p
  · exact z
  · have := h.2.2 p hp (by omega)
    rw [lb_of_back hy hx b] at this
    cases this
end My

namespace My
/-! ### what is due, told by whole numbers -/
theorem taken_of {r : Way} {i p0 p1 : Int} (h0 : 0 < p0) (h1 : p0 < p1) : takenQ r ((i : Rat) + Rat.divInt p0 p1) = if ruleB r i (Rat.divInt p0 p1) = true then i + 1 else i := by
  have a : (0 : Rat) < (p0 : Rat) := Rat.intCast_pos.mpr h0
  have b : (p0 : Rat) < (p1 : Rat) := Rat.intCast_lt_intCast.mpr h1
  have q : (0 : Rat) < (p1 : Rat) := by grind
  refine taken_add ?_ ?_
  · rw [Rat.divInt_eq_div]
    exact (Rat.lt_div_iff q).mpr (by grind)
  · rw [Rat.divInt_eq_div]
    exact (Rat.div_lt_iff q).mpr (by grind)
theorem nearer_div {p0 p1 : Int} (h0 : 0 < p0) (h1 : p0 < p1) (a : Bool) : nearerB (Rat.divInt p0 p1) a = if 2 * p0 = p1 then a else decide (p1 < 2 * p0) := by
  have q : (0 : Rat) < (p1 : Rat) := Rat.intCast_pos.mpr (by omega)
  have e2 : ((2 * p0 : Int) : Rat) = 2 * (p0 : Rat) := by rw [Rat.intCast_mul]; rfl
  rw [Rat.divInt_eq_div]
  by_cases z : 2 * p0 = p1
  · have p2 : (p1 : Rat) = 2 * (p0 : Rat) := by rw [← z]; exact e2
    have : (p0 : Rat) / (p1 : Rat) = 1 / 2 := by rw [p2]; rw [p2] at q; grind
    rw [if_pos z, this, nearerB_mid]
  · rw [if_neg z]
    by_cases y : p1 < 2 * p0
    · have : (p1 : Rat) < 2 * (p0 : Rat) := by rw [← e2]; exact Rat.intCast_lt_intCast.mpr y
      rw [decide_eq_true y, nearerB_hi ((Rat.lt_div_iff q).mpr (by grind))]
    · have : 2 * (p0 : Rat) < (p1 : Rat) := by rw [← e2]; exact Rat.intCast_lt_intCast.mpr (by omega)
      rw [decide_eq_false y, nearerB_lo ((Rat.div_lt_iff q).mpr (by grind))]
/-- the number of steps, as a whole and a part of one -/
theorem steps_split {t b c d : Int} (hb : 0 < b) (hc : 0 < c) (hd : 0 < d) : Rat.divInt t b / Rat.divInt c d = ((t * d / (b * c) : Int) : Rat) + Rat.divInt (t * d - t * d / (b * c) * (b * c)) (b * c) := by
  have hb' : (b : Rat) ≠ 0 := by simp; omega
  have hc' : (c : Rat) ≠ 0 := by simp; omega
  have hd' : (d : Rat) ≠ 0 := by simp; omega
  have e1 : Rat.divInt t b / Rat.divInt c d = ((t * d : Int) : Rat) / ((b * c : Int) : Rat) := by
    rw [Rat.divInt_eq_div, Rat.divInt_eq_div, Rat.intCast_mul, Rat.intCast_mul]
    grind
  have hB : ((b * c : Int) : Rat) ≠ 0 := by rw [Rat.intCast_mul]; grind
  rw [e1, Rat.divInt_eq_div, Rat.intCast_sub, Rat.intCast_mul (t * d / (b * c))]
  generalize ((t * d : Int) : Rat) = x at *
  generalize ((b * c : Int) : Rat) = y at *
  generalize ((t * d / (b * c) : Int) : Rat) = z at *
  grind
end My

/-! ### isinstance of a def -/
namespace PySem
open Sem (wp)
namespace F
theorem my_slot_function_ga : Slot "function" "__getattribute__" "object.__getattribute__" :=
  .of (owner := "object") (n := "__getattribute__") (by rw [typeLookup_type, builtinLookup_eq_fast]; kernel_rfl) (by decide +kernel) (by decide +kernel) (by decide +kernel)
    (by first | exact .inl (by decide +kernel) | exact .inr (by decide +kernel)) (by rw [isSubtype_type]; kernel_rfl)
theorem my_lk_function_class : typeLookup (.type "function") "__class__" = pure (some (.builtin "object.__class__")) := by rw [typeLookup_type, builtinLookup_eq_fast]; kernel_rfl
theorem my_sub_function_owner : isSubtype (.type "function") (.type (".".intercalate ("object.__class__".cutAt '.').dropLast)) = pure true := by
  rw [owner_object_class, isSubtype_type]; kernel_rfl
end F
section
variable {prog : Program} {w : World} {A : Around} {E : Value → Shared → Prop} {h : Heap} {g : Array GenState} {d : Drawn} {t : Nat} {os : OsState} {a : Addr} {o : Obj}
theorem my_class_get_fun {R : Result → Shared → Prop} (hx : h.get? a = some o) (hc : o.cls = .type "function") (hq : R (.ok (.ret (.type "function"))) ⟨h, g, d, t, os⟩) :
    codeAny (model prog w) A (.call (.builtin "getset_descriptor.__get__") ⟨[.builtin "object.__class__", .ref a, .type "function"], []⟩) R ⟨h, g, d, t, os⟩ := by
  have hT : (⟨h, g, d, t, os⟩ : Shared).TypeIs (.ref a) "function" := ⟨_, hx, hc⟩
  have hT5 : (⟨h, g, d, t, os⟩ : Shared).TypeIs (.builtin "object.__class__") "getset_descriptor" := F.typeOf_object_class
  have f8 := F.my_sub_function_owner
  refine codeAny_call_builtin F.slot_gs_get.plain F.entry_gs_get (F.slot_gs_get.check _ _ _ _ _ _ _ _ hT5 (F.args_gs_get _ _ _) ?_)
  repeat (any_goals (first | assumption | wp_step))
  refine ⟨Code.quiet_builtin _ (by decide +kernel), codeAny_builtin F.entry_object_class ?_⟩
  repeat (any_goals (first | assumption | wp_step))
theorem my_class_entry_fun {tk : Tok} {Q : Fin → Shared → Prop} (hx : h.get? a = some o) (hc : o.cls = .type "function") (hq : Q (.done (.ret (.type "function"))) ⟨h, g, d, t, os⟩) :
    wpAny (model prog w) A (Builtin.«object.__getattribute__» ⟨[.ref a, .str "__class__" tk], []⟩) Q E ⟨h, g, d, t, os⟩ := by
  have hT : (⟨h, g, d, t, os⟩ : Shared).TypeIs (.ref a) "function" := ⟨_, hx, hc⟩
  have hT5 : (⟨h, g, d, t, os⟩ : Shared).TypeIs (.builtin "object.__class__") "getset_descriptor" := F.typeOf_object_class
  have f4 := F.my_lk_function_class
  have f5 := F.typeOf_object_class
  have f6 := F.slot_gs_get.lookup
  have f7 := F.slot_gs_set.lookup
  repeat (any_goals (first | assumption | wp_step))
  refine my_class_get_fun hx hc ?_
  repeat (any_goals (first | assumption | wp_step))
theorem my_class_call_fun {tk : Tok} {R : Result → Shared → Prop} (hx : h.get? a = some o) (hc : o.cls = .type "function") (hq : R (.ok (.ret (.type "function"))) ⟨h, g, d, t, os⟩) :
    codeAny (model prog w) A (.call (.builtin "object.__getattribute__") ⟨[.ref a, .str "__class__" tk], []⟩) R ⟨h, g, d, t, os⟩ :=
  codeAny_call_builtin F.my_slot_function_ga.plain F.entry_object_getattribute (F.my_slot_function_ga.check _ _ _ _ _ _ _ _ (show (⟨h, g, d, t, os⟩ : Shared).TypeIs (.ref a) "function" from ⟨_, hx, hc⟩) (F.args_object_getattribute_2 _ _) (my_class_entry_fun hx hc hq))
theorem my_class_by_fun {tk : Tok} {Q : Value → Shared → Prop} (hx : h.get? a = some o) (hc : o.cls = .type "function") (hq : Q (.type "function") ⟨h, g, d, t, os⟩) : wpAny (model prog w) A (getAttrBy (.ref a) (.str "__class__" tk) false) Q E ⟨h, g, d, t, os⟩ := by
  have hT : (⟨h, g, d, t, os⟩ : Shared).TypeIs (.ref a) "function" := ⟨_, hx, hc⟩
  have f2 := F.my_slot_function_ga.lookup
  have f3 := F.my_slot_function_ga.bind (.ref a)
  repeat (any_goals (first | assumption | wp_step))
  refine my_class_call_fun hx hc ?_
  repeat (any_goals (first | assumption | wp_step))
theorem my_class_attr_fun {Q : Option Value → Shared → Prop} (hx : h.get? a = some o) (hc : o.cls = .type "function") (hq : Q (some (.type "function")) ⟨h, g, d, t + 1, os⟩) : wpAny (model prog w) A (getAttr? (.ref a) "__class__") Q E ⟨h, g, d, t, os⟩ := by
  unfold getAttr? getAttrBy?
  repeat (any_goals (first | assumption | with_reducible apply my_class_by_fun hx hc | wp_step))
end
end PySem
namespace PySem.W
theorem my_kitx_fun {K : Frag} {a : Addr} : KitX K (.ref a) (.type "function") (KitAt a "function") := kitx_of kitAt_ty (fun {_ _ _ _ _ s} p k => by obtain ⟨h, g, d, t, os⟩ := s; obtain ⟨o, h1, h2⟩ := p; exact my_class_attr_fun h1 h2 k)
end PySem.W

namespace My
open PySem L2
/-- isinstance of a def of the module's top -/
def rIsiF (K : PySem.W.Frag) : List V → Hp → VK → Prop := fun xs H Q => ∃ (a : Addr) (o : Obj) (n : String) (b : Bool), xs = [.ref a, .ty n] ∧ K.lookup a = some o ∧ o.cls = .type "function" ∧ PySem.W.kitOne K (.type "function") (.type n) = some b ∧ Q (.bl b) H
theorem call_isiF {X : Cx} : CallR X (.builtin "isinstance") (rIsiF X.K) := by
  intro pins s σ H xs us Q I r h
  obtain ⟨a, o, n, b, rfl, hl, hc, e, q⟩ := h
  obtain ⟨u1, u2, rfl, r1, r2⟩ := vals2 r
  have e2 := (ClsV.ty n).eq r2
  subst e2
  cases (show u1 = Value.ref a from r1)
  exact PySem.W.kia_one PySem.W.my_kitx_fun I.kIn ⟨o, I.kIn _ _ hl, hc⟩ e (fun z => nomatch z) fun tk => ⟨.bl b, H, I.tok tk, rfl, q⟩
theorem fun_str {K : PySem.W.Frag} {H : Hp} {a : Addr} {Q : VK} (h : ∃ o, K.lookup a = some o ∧ o.cls = .type "function") (q : Q (.bl false) H) : rIsiF K [.ref a, .ty "str"] H Q :=
  let ⟨o, h1, h2⟩ := h
  ⟨a, o, "str", false, rfl, h1, h2, kit_ty (by decide +kernel), q⟩
end My

namespace My
open PySem L2
/-! ### == and != of two objects of an own class with an own == -/
section
variable {X : Cx} {C f : Addr} {fd : FuncData} {ps : List Str} {n : Nat} {sp : Sp}
/-- the own == as it runs, within X or one builtin deeper -/
theorem run_eq {A : Around} {pins : List (Addr × Obj)} {σ : L2.St} {H : Hp} {s : Shared} {a b : Addr} {Q : VK} {E : XK} (F : FnOk X.prog X.w X.K X.mg X.base CX0 n f fd ps sp) (hb : Binds X.K fd ps []) (hr : Room n A) (hfr : A.frames = X.A.frames)
    (I : Inv X pins σ H s) (h : sp [.ref a, .ref b] H Q E) : wpAny (model X.prog X.w) A (call (.ref f) [.ref a, .ref b]) (EP X pins σ Q) X.xe s := by
  have w0 := I.env0
  have w1 : Env0 X.prog X.w X.K X.mg X.base A X.stack s H := ⟨hfr.trans w0.frames, w0.mod, w0.bs, w0.bsz, w0.funs, w0.frf, w0.hok, w0.bare⟩
  have len2 : 2 = ps.length := F.len _ _ _ _ h
  have bnd : BindsTo s fd ⟨[.ref a, .ref b], []⟩ (ps.zip [.ref a, .ref b]) := by
    have q := hb s [.ref a, .ref b] I.kIn (by simpa using len2)
    simpa using q
  refine wpAny_call (codeAny_mono (F.run A X.stack s H ⟨[.ref a, .ref b], []⟩ [.ref a, .ref b] [.ref a, .ref b] Q E hr w1 bnd (.cons rfl (.cons rfl .nil)) h) ?_)
  intro r s' z
  match r, z with
  | .error _, z => exact z.elim
  | .ok (.ret u), z => exact I.after z
/-- a == b -/
def rEqOwn (C : Addr) (sp : Sp) : R2 := fun x y H Q => ∃ (a b dx dy : Addr) (fs gs : List (Str × V)), x = .ref a ∧ y = .ref b ∧ H a = some (.ins C dx fs) ∧ H b = some (.ins C dy gs) ∧ sp [.ref a, .ref b] H (fun v H' => ∃ k, v = .bl k ∧ Q (.bl k) H') E0
theorem op_eqOwn (F : FnOk X.prog X.w X.K X.mg X.base CX0 n f fd ps sp) (hs : PySem.W.findIn X.K (.ref C) "__eq__" = some (some (.ref f))) (hf : PySem.W.isFn X.K (.ref f) = true) (hb : Binds X.K fd ps []) (hr : Room n X.A) :
    OpR X (compareOp .Eq) (rEqOwn C sp) := by
  rintro pins s σ H x y v u Q I rx ry ⟨a, b, dx, dy, fs, gs, rfl, rfl, ha, hb', q⟩
  cases rx
  cases ry
  obtain ⟨_, J1, _⟩ := ins_get I.hok ha
  obtain ⟨_, J2, _⟩ := ins_get I.hok hb'
  obtain ⟨_, K1, _⟩ := J1.look
  obtain ⟨_, K2, _⟩ := J2.look
  obtain ⟨_, fr⟩ := I.fr
  show wpAny (model X.prog X.w) X.A (richCompare .Eq (.ref a) (.ref b)) _ _ s
  refine PySem.W.cmp_K (op := .Eq) (tb := .ref C) hr.units0 fr I.ok.mod.kin K1 K2.type (by simp [PySem.W.notFirst]) hs hf ?_
  refine thn (run_eq F hb hr rfl I q) ?_
  rintro w s' ⟨z, H', I', rz, k, rfl, qk⟩
  cases rz
  exact ⟨.bl k, H', I', rfl, qk⟩
/-- a != b, no own != -/
def rNeOwn (C : Addr) (sp : Sp) : R2 := fun x y H Q => ∃ (a b dx dy : Addr) (fs gs : List (Str × V)), x = .ref a ∧ y = .ref b ∧ H a = some (.ins C dx fs) ∧ H b = some (.ins C dy gs) ∧ sp [.ref a, .ref b] H (fun v H' => ∃ k, v = .bl k ∧ Q (.bl (!k)) H') E0
theorem ne_run {P : Program} {w : World} {A : Around} {R : Fin → Shared → Prop} {E : Value → Shared → Prop} {K : PySem.W.Frag} {s : Shared} {a b C f : Addr} {ox : Obj} {od : Option Obj} (hu : A.units < cLine) (X : K.In s.heap) (I : PySem.W.InstAt s.heap a ox C od)
    (hs : PySem.W.findIn K (.ref C) "__eq__" = some (some (.ref f))) (hf : PySem.W.isFn K (.ref f) = true) (h : wpAny (model P w) A (call (.ref f) [.ref a, .ref b]) (fun v s' => ∃ k, v = .bool k ∧ R (.done (.ret (.bool (!k)))) s') E s) :
    wpAny (model P w) A (Builtin.«object.__ne__» ⟨[.ref a, .ref b], []⟩) R E s := by
  have e : Builtin.«object.__ne__» ⟨[.ref a, .ref b], []⟩ = (do
      cRoomFor "comparison" [.ref a, .ref b]
      let r ← callSpecialIfBound? (.ref a) "__eq__" [.ref b]
      match r with
      | some .notImplemented | none => PySem.ret .notImplemented
      | some r => PySem.ret (.bool (!(← truthy r)))) := by rfl
  rw [e]
  refine wpAny_bind (wpAny_cRoomFor hu ?_)
  refine wpAny_bind (PySem.W.ifBound_K X I hs hf (wpAny_mono h ?_ fun _ _ z => z))
  rintro v s' ⟨k, rfl, q⟩
  exact wpAny_bind (wpAny_truthy_bool (wpAny_pure q))
theorem op_neOwn (F : FnOk X.prog X.w X.K X.mg X.base CX0 n f fd ps sp) (hs : PySem.W.findIn X.K (.ref C) "__eq__" = some (some (.ref f))) (hf : PySem.W.isFn X.K (.ref f) = true) (hb : Binds X.K fd ps [])
    (hn : PySem.W.findIn X.K (.ref C) "__ne__" = some (some (.builtin "object.__ne__"))) (hm : PySem.W.mroIn X.K C (.type "object") = some true) (hr : Room (n + 1) X.A) :
    OpR X (compareOp .NotEq) (rNeOwn C sp) := by
  rintro pins s σ H x y v u Q I rx ry ⟨a, b, dx, dy, fs, gs, rfl, rfl, ha, hb', q⟩
  cases rx
  cases ry
  obtain ⟨_, J1, _⟩ := ins_get I.hok ha
  obtain ⟨_, J2, _⟩ := ins_get I.hok hb'
  obtain ⟨_, K1, _⟩ := J1.look
  obtain ⟨_, K2, _⟩ := J2.look
  have kin := I.kIn
  have sub : PySem.W.Looks (model X.prog X.w) s.heap (isInstance (.ref a) (.type "object")) true := K1.type.andThen (PySem.W.looks_mroIn kin hm)
  have r1 : Room n X.A.in1 := hr.in1
  have go : wpAny (model X.prog X.w) X.A (call (.builtin "object.__ne__") [.ref a, .ref b]) (fun v s' => v ≠ .notImplemented ∧ EP X pins σ Q v s') X.xe s := by
    refine wpAny_call (codeAny_call_builtin PySem.F.slot_tuple_iterator_ne.plain PySem.F.cmpEntry_ne (PySem.W.check_slot PySem.F.cmpKind_ne PySem.F.cmpSplit_ne sub (PySem.F.cmpArgs_ne _ _) ?_))
    refine ne_run r1.units0 kin K1 hs hf (thn (run_eq F hb r1 rfl I q) ?_)
    rintro w s' ⟨z, H', I', rz, k, rfl, qk⟩
    cases rz
    exact ⟨k, rfl, (fun z => by cases z), .bl (!k), H', I', rfl, qk⟩
  have one : wpAny (model X.prog X.w) X.A (tryCompare (.ref a) "__ne__" (.ref b)) (fun r s' => ∃ v, r = some v ∧ EP X pins σ Q v s') X.xe s := by
    unfold tryCompare
    refine wpAny_bind ?_
    simp only [callSpecialIfBound?, bindSpecialIfBound?]
    have bi : PySem.W.Looks (model X.prog X.w) s.heap (bindSpecial (.builtin "object.__ne__") (.ref a)) (.builtin "object.__ne__", [.ref a]) := PySem.W.Looks.of_pure (PySem.F.slot_tuple_iterator_ne.bind _)
    have last : wpAny (model X.prog X.w) X.A (call (.builtin "object.__ne__") ([.ref a] ++ [.ref b]) >>= fun v => pure (some v)) (fun r s' => wpAny (model X.prog X.w) X.A (match r with | some .notImplemented => pure none | none => pure none | some v => pure (some v)) (fun r s' => ∃ v, r = some v ∧ EP X pins σ Q v s') X.xe s') X.xe s := by
      refine wpAny_bind (thn go ?_)
      rintro v s' ⟨nv, ev⟩
      refine wpAny_pure ?_
      cases v <;> first | exact absurd rfl nv | exact wpAny_pure ⟨_, rfl, ev⟩
    refine wpAny_holding (wpAny_bind (wpAny_bind (wpAny_bind (K1.type.here ((PySem.W.looks_findIn kin hn).here ?_)))))
    refine wpAny_bind (wpAny_askSetting (wpAny_ite ?_))
    split
    · exact wpAny_bind (bi.here (wpAny_pure (by exact last)))
    · exact wpAny_tryCatch (wpAny_bind (bi.here (wpAny_pure (by exact last))))
  show wpAny (model X.prog X.w) X.A (richCompare .NotEq (.ref a) (.ref b)) _ _ s
  unfold richCompare
  simp only [oneThing_ref]
  refine wpAny_holding (wpAny_bind (wpAny_cRoomFor hr.units0 ?_))
  refine wpAny_bind (K1.type.here (wpAny_bind (K2.type.here ?_)))
  have e0 : (Value.ref C != Value.ref C) = false := by simp
  rw [e0]
  simp only [Bool.false_eq_true, if_false]
  refine wpAny_bind (wpAny_pure ?_)
  simp only [Bool.false_eq_true, if_false]
  refine wpAny_bind (wpAny_mono one ?_ fun _ _ z => z)
  rintro r s' ⟨v, rfl, q'⟩
  exact wpAny_pure q'
end
end My

namespace My
open PySem PySem.Spec PyProof.Rows L2
/-! ### promises where no repr is under way -/
/-- a promise of the def at f, for surroundings in which nothing is being shown -/
structure FnG (P : Program) (w : World) (K : PySem.W.Frag) (mg : Str → Option Value) (base : Heap) (k : Nat) (f : Addr) (fd : FuncData) (ps : List Str) (sp : Sp) : Prop where
  len : ∀ vs H Q E, sp vs H Q E → vs.length = ps.length
  run : ∀ (A : Around) (outer : List Env) (s : Shared) (H : Hp) (args : Args) (us : List Value) (vs : List V) (Q : VK) (E : XK), A.guards = some [] → Room k A → Env0 P w K mg base A outer s H → BindsTo s fd args (ps.zip us) → Vals vs us → sp vs H Q E →
    codeAny (model P w) A (.call (.ref f) args) (CR CX0 outer P w H s Q E) s
section
variable {P : Program} {w : World} {K : PySem.W.Frag} {mg : Str → Option Value} {base : Heap}
theorem FnG.by_body {x qual : Str} {st : Stmt} {f : Addr} {fd : FuncData} {N ps : List Str} {k : Nat} {sp : Sp} (F : Fun K x qual st f fd) (S : FnScope N ps (defScope st)) (len : ∀ vs H Q E, sp vs H Q E → vs.length = ps.length)
    (body : ∀ (cdv : Value) (A : Around) (outer : List Env) (s : Shared) (H : Hp) (vs : List V) (Q : VK) (E : XK), A.guards = some [] → Room k (A.deeper (envOfC qual (defScope st) s.heap.objs.size f cdv)) → sp vs H Q E →
      ∃ t, PSs (cxOf CX0 P w K mg base N qual (defScope st) f cdv A outer s H E).nox (defBody st) t ∧ t { nx := fun _ H' => Q .non H', rt := Q } (start N vs) H) : FnG P w K mg base (k + 1) f fd ps sp := by
  obtain ⟨_, _, _, _, _, _, cdv, _, _, rfl, look, code⟩ := F.ex
  constructor
  · exact len
  intro A outer s H args us vs Q E hg hr e0 hb rel hsp
  have n := len _ _ _ _ hsp
  have old : ∀ b o, base.get? b = some o → s.heap.get? b = some o := fun b o e => (e0.bs b o e).1
  have inK : K.In s.heap := e0.mod.kin.keeps old
  obtain ⟨t, ht, q⟩ := body cdv A outer s H vs Q E hg (hr.deeper _) hsp
  have named : ∀ y ∈ ps.zip us, (defScope st).names.lookup y.1 = some .local ∨ ((defScope st).names.lookup y.1 = some .cell ∧ ((cellsFrom (s.heap.objs.size + 1) (defScope st).names []).lookup y.1).isSome = true) := by
    rintro ⟨m, v⟩ hy
    exact (S.par m (List.of_mem_zip hy).1).imp (fun z => z) fun z => ⟨z, PySem.W.cellsFrom_some _ _ _ (.inl z)⟩
  refine codeAny_call_function hr.depth (inK _ _ look) rfl S.co S.gen rfl (PySem.W.codeRec_of inK code) (hb _ _ _ _ (wpAny_newFunctionEnv_cells S.kind named fun env he s1 z => ?_))
  subst he
  refine ⟨(e0.mod.nolimit.keeps old).keeps z.toInCall.keep, codeAny_func (wpAny_mono (ht.nox.run [] s1 (start N vs) H _ (inv_start S hr.hd e0 n rel z) q) ?_ fun _ _ h => h)⟩
  intro fl s' h
  match fl, h with
  | .ret u, ⟨v, σ', H', J, rv, q'⟩ => exact ⟨v, H', J.os, J.bare, J.base, J.hok, rv, q'⟩
  | .next, ⟨σ', H', J, q'⟩ => exact ⟨V.non, H', J.os, J.bare, J.base, J.hok, rfl, q'⟩
  | .brk, ⟨_, _, _, q'⟩ => exact q'.elim
  | .cont, ⟨_, _, _, q'⟩ => exact q'.elim
end
section
variable {X : Cx} {k : Nat} {f : Addr} {fd : FuncData} {ps : List Str} {sp : Sp} {dvs : List V} {ds : List Value} {E : XK} {x : Str} {p pos : Pos} {e : Expr} {es : List Expr} {t : TA}
/-- a call of such a def -/
theorem pe_callG (hA : X.A.guards = some []) (F : FnG X.prog X.w X.K X.mg X.base k f fd ps sp) (hr : Room k X.A) (hg : Gl X x) (hm : X.mg x = some (.ref f)) (hk : PySem.W.keepIn X.K (.ref f) = true) (hb : Binds X.K fd ps ds) (hd : Vals dvs ds) (hx : Passes CX0 X E)
    (ha : PA X (e :: es) t) (hdb : (x == ("__debug__" : Str)) = false := by decide) (he : starEach (e :: es) X.env = (false, eval e X.env) :: starEach es X.env := by rfl) (hpl : (backTo pos (starEach es X.env)).any (·.1) = false := by rfl) :
    PE X (.Call (.Name x p) (e :: es) [] pos) (tCall sp dvs E t) := by
  constructor
  intro pins s σ H Q I h
  refine wpAny_Call_Name_kw (ld_glob I hg hm ?_ hdb)
  refine PySem.W.callWith_K (h₀ := X.base) I.ok.mod.kin hk (thn (ha.run pos pins s σ H _ I h) ?_) he hpl
  rintro us s1 ⟨vs, H1, J, rel, q⟩
  refine ⟨J.kIn, ?_⟩
  have both := rel.append hd
  have n : (us ++ ds).length = ps.length := by rw [← both.length]; exact F.len _ _ _ _ q
  refine wpAny_call (codeAny_mono (F.run X.A X.stack s1 H1 ⟨us, []⟩ (us ++ ds) (vs ++ dvs) Q E hA hr J.env0 (hb s1 us J.kIn n) both q) ?_)
  intro r s' z
  match r, z with
  | .error _, z => exact hx pins σ H1 s1 _ s' J z
  | .ok (.ret _), z => exact J.after z
/-- repr of data -/
def rRepr (K : PySem.W.Frag) : List V → Hp → VK → Prop := fun xs H Q => ∃ (a : Addr) (d : PyData), xs = [.ref a] ∧ Dp K H (.ref a) d ∧ d.showable = true ∧ d.hasDict = false ∧ d.depth ≤ 60 ∧ d.shown.length ≤ sizeLine ∧ Q (.str d.shown) H
theorem call_repr (hA : X.A.guards = some []) (hu : X.A.units + 64 < cLine) : CallR X (.builtin "repr") (rRepr X.K) := by
  rintro pins s σ H xs us Q I r ⟨a, d, rfl, hd, hs, hn, hz, hl, q⟩
  obtain ⟨u, rfl, rx⟩ := vals1 r
  cases rx
  obtain ⟨as, rd⟩ := Dp.reads I d (.ref a) (.ref a) hd rfl
  exact repr_of_reads' rd hs (PyData.noDict_hsm hn) hA (by omega) (fun _ _ e => e) (fun h' u tk hk => ⟨.str d.shown, H, I.kept hk, ⟨_, rfl⟩, q⟩) hl
end
end My
namespace My
open PySem PySem.Spec PyProof.Rows L2
/-! ### the law's call, by such a promise -/
section
variable {P : Program} {w : World} {K : PySem.W.Frag} {mg mb : Str → Option Value} {k : Nat} {fa a : Addr} {fd : FuncData} {x : Str} {sp : Sp} {s₁ : Shared} {vs : List Value} {ns : List Int}
/-- with H tracked: nothing but the script, and not even this where it is the module's own -/
theorem law_with (KX : K.In s₁.heap) (hns : s₁.heap.Ns mainGlobals mg) (hb : s₁.heap.Ns builtinsNs mb) (hbb : ∀ x : Str, x ≠ "__name__" → mb x = bootBuiltins x) (hlim : s₁.heap.NoLimit) (hg : s₁.gens = #[])
    (ha : s₁.heap.get? a = some { cls := .type "list", data := .seq vs.toArray }) (hr : Room k callerA)
    (F : ∀ base : Heap, K.In base → base.Ns mainGlobals mg → FnG P w K mg base k fa fd [x] sp) (hbind : ∀ (s : Shared) (u : Value), BindsTo s fd ⟨[u], []⟩ [(x, u)])
    {H : Hp} (off : ∀ b, b ≠ a → H b = none) (own : K.lookup a ≠ none → H a = none) (frz : ∀ u, H a = some u → ∃ ob xs, u = .frz ob (.lst xs)) (hok : HOk P w H s₁.heap)
    (hsp : sp [.ref a] H (fun v _ => v = .bl true) fun _ _ _ => False) :
    codeAny (model P w) callerA (.call (.ref fa) ⟨[.ref a], []⟩) (fun r s' => r = .ok (.ret (.bool true)) ∧ OldK s₁.heap s'.heap ∧ s'.os = s₁.os ∧ AllBare s'.gens) s₁ := by
  have stays : ∀ {b : Addr} {o : Obj}, s₁.heap.get? b = some o → b ≠ a → (hidT s₁.heap H).get? b = some o := fun e n => hidT_get e (off _ n)
  have dicts : ∀ {b : Addr} {o : Obj} {es : Array DictEntry} {n : Nat}, s₁.heap.get? b = some o → o.data = .dict es n → b ≠ a := by
    rintro b o es n e d rfl
    rw [ha] at e
    cases e
    cases d
  have tables : ∀ {b : Addr} {m : Str → Option Value}, s₁.heap.Ns b m → (hidT s₁.heap H).Ns b m := fun {b m} h => by
    obtain ⟨o, es, n, e, d, r⟩ := h
    exact ⟨o, es, n, stays e (dicts e d), d, r⟩
  have inK : K.In (hidT s₁.heap H) := fun b o e => by
    by_cases z : b = a
    · subst z
      exact hidT_get (KX _ _ e) (own (by rw [e]; simp))
    · exact stays (KX _ _ e) z
  obtain ⟨mc, l1, l2⟩ := hlim
  have e0 : Env0 P w K mg (hidT s₁.heap H) callerA [] s₁ H :=
    ⟨rfl, ⟨inK, tables hns, ⟨mb, tables hb, hbb⟩, mc, tables l1, l2⟩, fun b o e => of_hidT e, Nat.le_of_eq (hidT_size _ _), trivial, fun b hb => absurd (show b ∈ ([] : List Addr) from hb) (by simp), hok, .of_eq hg⟩
  have run := (F _ inK (tables hns)).run callerA [] s₁ H ⟨[.ref a], []⟩ [.ref a] [.ref a] _ _ rfl hr e0 (hbind s₁ (.ref a)) (.cons rfl .nil) hsp
  refine codeAny_mono run ?_
  intro r s' h
  match r, h with
  | .error _, h => exact False.elim h
  | .ok (.ret u), ⟨v, H', os, bare, un, hok', rv, q⟩ =>
    have q' : v = .bl true := q
    subst q'
    obtain rfl : u = Value.bool true := rv
    refine ⟨rfl, OldK.of_keep fun b o e => ?_, os, bare⟩
    cases z : H b with
    | none => exact un.keep b o e z (fun y => absurd (show b ∈ ([] : List Addr) from y) (by simp)) (by simp)
    | some u =>
      have ba : b = a := Classical.byContradiction fun y => by rw [off b y] at z; cases z
      subst ba
      obtain ⟨ob, xs, rfl⟩ := frz u z
      obtain ⟨e1, _⟩ := hok b _ z
      obtain ⟨e2, _⟩ := hok' b _ (un.frzs b ob _ z)
      rw [e] at e1
      cases e1
      exact e2
theorem law_callG (KX : K.In s₁.heap) (hns : s₁.heap.Ns mainGlobals mg) (hb : s₁.heap.Ns builtinsNs mb) (hbb : ∀ x : Str, x ≠ "__name__" → mb x = bootBuiltins x) (hlim : s₁.heap.NoLimit) (hg : s₁.gens = #[])
    (ha : s₁.heap.get? a = some { cls := .type "list", data := .seq vs.toArray }) (hi : IntsAre vs ns) (hl : ns.length ≤ sizeLine) (hr : Room k callerA)
    (F : ∀ base : Heap, K.In base → base.Ns mainGlobals mg → FnG P w K mg base k fa fd [x] sp) (hbind : ∀ (s : Shared) (u : Value), BindsTo s fd ⟨[u], []⟩ [(x, u)])
    (hsp : ∀ H : Hp, SqL K H a (ns.map V.int) → sp [.ref a] H (fun v _ => v = .bl true) fun _ _ _ => False) :
    codeAny (model P w) callerA (.call (.ref fa) ⟨[.ref a], []⟩) (fun r s' => r = .ok (.ret (.bool true)) ∧ OldK s₁.heap s'.heap ∧ s'.os = s₁.os ∧ AllBare s'.gens) s₁ := by
  have rel := vals_ints hi
  by_cases hk : K.lookup a = none
  · let it : HO := .frz { cls := .type "list", data := .seq vs.toArray } (.lst (ns.map V.int))
    have there : upd (fun _ => none) a it a = some it := upd_same
    refine law_with KX hns hb hbb hlim hg ha hr F hbind (H := upd (fun _ => none) a it) (fun b n => upd_ne n) (fun z => absurd hk z) (fun u e => ?_) (fun b u e => ?_) (hsp _ (.inl (.inr ⟨_, there⟩)))
    · rw [there] at e
      cases e
      exact ⟨_, _, rfl⟩
    · by_cases z : b = a
      · subst z
        rw [there] at e
        cases e
        exact ⟨ha, by rw [List.length_map]; exact hl, vs, _, rel, ha⟩
      · rw [upd_ne z] at e
        cases e
  · obtain ⟨o, ho⟩ := Option.ne_none_iff_exists'.mp hk
    have e := KX a o ho
    rw [ha] at e
    cases e
    refine law_with KX hns hb hbb hlim hg ha hr F hbind (H := fun _ => none) (fun b n => rfl) (fun _ => rfl) (fun u e => by cases e) (fun b u e => by cases e) (hsp _ (.inr ⟨_, vs.toArray, _, ho, rfl, rfl, rfl, by rw [List.size_toArray, hi.length]; exact hl, by simpa using rel⟩))
theorem walk_ofG {l : PySem.W.OpenLaw} {n k : Nat} {q : Program} {loose : List Str} {XP : (Str → Option Value) → Heap → Prop} {YP : World → Heap → Prop} {d : DefRec} {K : Params → PySem.W.Frag} {sp : World → Sp} {x : Str}
    (hn : l.most = some n) (hn2 : n ≤ sizeLine) (hdf : d.params.defaults = []) (hr : Room k callerA) (hY : ∀ (w : World) (h : Heap), YP w h → (K w.params).In h)
    (F : ∀ (w : World) (mg : Str → Option Value) (fa : Addr) (h : Heap), (K w.params).In h → h.Ns mainGlobals mg → mg d.name = some (.ref fa) →
      ∃ fd : FuncData, (∀ (s : Shared) (u : Value), BindsTo s fd ⟨[u], []⟩ [(x, u)]) ∧ ∀ base : Heap, (K w.params).In base → base.Ns mainGlobals mg → FnG l.prog w (K w.params) mg base k fa fd [x] (sp w))
    (hsp : ∀ (w : World) (H : Hp) (a : Addr) (ns : List Int), ns.length ≤ n → SqL (K w.params) H a (ns.map V.int) → sp w [.ref a] H (fun v _ => v = .bl true) fun _ _ _ => False) :
    PySem.W.WalkO q loose XP YP l.row.toRowW d [] (fun f vs => PySem.call f vs) := by
  refine Att.attach_call hn hdf fun w s₀ s₁ mg mb fa o pm cd doc a vs ns G Y ho hd hcd hmg hobj hints hlen hg => ?_
  have KX := hY w _ Y
  obtain ⟨fd, hb, hF⟩ := F w mg fa _ KX G.T.g hmg
  exact law_callG KX G.T.g G.T.b G.T.builtins G.T.nolimit hg hobj hints (Nat.le_trans hlen hn2) hr hF hb fun H hS => hsp w H a ns hlen hS
end
end My

namespace My
open PySem PySem.Spec PyProof.Rows L2
section
variable {X : Cx}
/-- repr of data, whatever its kind -/
def rReprA (K : PySem.W.Frag) : List V → Hp → VK → Prop := fun xs H Q => ∃ (x : V) (d : PyData), xs = [x] ∧ Dp K H x d ∧ d.showable = true ∧ d.hasDict = false ∧ d.depth ≤ 60 ∧ d.shown.length ≤ sizeLine ∧ Q (.str d.shown) H
theorem call_reprA (hA : X.A.guards = some []) (hu : X.A.units + 64 < cLine) : CallR X (.builtin "repr") (rReprA X.K) := by
  rintro pins s σ H xs us Q I r ⟨x, d, rfl, hd, hs, hn, hz, hl, q⟩
  obtain ⟨u, rfl, rx⟩ := vals1 r
  cases hd with
  | non =>
    cases rx
    exact PySem.P.repr_of_none ⟨.str _, H, I.tok _, ⟨_, rfl⟩, q⟩
  | bl b =>
    obtain ⟨t, rfl⟩ := rx
    exact PySem.P.repr_of_bool ⟨.str _, H, I.tok _, ⟨_, rfl⟩, q⟩
  | int i =>
    obtain ⟨t, rfl⟩ := rx
    exact PySem.P.repr_of_int (by simpa [PyData.showable] using hs) ⟨.str _, H, I.tok _, ⟨_, rfl⟩, q⟩
  | str z =>
    obtain ⟨t, rfl⟩ := rx
    exact PySem.P.repr_of_str ⟨.str _, H, I.tok _, ⟨_, rfl⟩, q⟩ hl
  | lst h1 h2 =>
    cases rx
    obtain ⟨as, rd⟩ := Dp.reads I _ _ _ (.lst h1 h2) rfl
    exact repr_of_reads' rd hs (PyData.noDict_hsm hn) hA (by omega) (fun _ _ e => e) (fun h' u tk hk => ⟨.str _, H, I.kept hk, ⟨_, rfl⟩, q⟩) hl
  | tup h1 h2 =>
    cases rx
    obtain ⟨as, rd⟩ := Dp.reads I _ _ _ (.tup h1 h2) rfl
    exact repr_of_reads' rd hs (PyData.noDict_hsm hn) hA (by omega) (fun _ _ e => e) (fun h' u tk hk => ⟨.str _, H, I.kept hk, ⟨_, rfl⟩, q⟩) hl
end
/-- none, or a whole number, shown -/
theorem data_opt {d : PyData} (h : d = .none ∨ ∃ i : Int, d = .int i ∧ i.natAbs < 2 ^ 1900) : d.showable = true ∧ d.hasDict = false ∧ d.depth ≤ 60 ∧ d.shown.length ≤ sizeLine := by
  rcases h with rfl | ⟨i, rfl, hi⟩
  · refine ⟨?_, ?_, ?_, ?_⟩ <;> first | rfl | decide +kernel
  · have l1 : i.natAbs.log2 < 1920 := Nat.lt_of_lt_of_le (PySem.Flt.log2_lt_of (by decide) hi) (by decide)
    have s1 : (PyData.shown (.int i)).length ≤ 1921 := PyProof.Rows.int_text_len_1921 l1
    refine ⟨?_, ?_, ?_, ?_⟩
    · simpa only [PyData.showable, decide_eq_true_eq] using l1
    · simp [PyData.hasDict]
    · simp [PyData.depth]
    · exact Nat.le_trans s1 (by decide)
end My

namespace My
open PySem L2
def top (i : Nat) : Stmt := PySem.Challenge.pw_figuretexts_k56_shortest_papers_spoilt.main.body.getD i (.Pass ⟨0, 0, 0, 0⟩)
abbrev s_is_whole : Stmt := top 3
theorem sc_is_whole : FnScope ["thing"] ["thing"] (defScope s_is_whole) := ⟨rfl, rfl, rfl, by decide +kernel, rfl, by decide +kernel, by decide +kernel⟩
abbrev s_is_whole_between : Stmt := top 4
theorem sc_is_whole_between : FnScope ["thing", "least", "most"] ["thing", "least", "most"] (defScope s_is_whole_between) := ⟨rfl, rfl, rfl, by decide +kernel, rfl, by decide +kernel, by decide +kernel⟩
abbrev s_Number_init : Stmt := inClass (top 8) 0
theorem sc_Number_init : FnScope ["self", "top", "bottom", "common"] ["self", "top", "bottom"] (defScope s_Number_init) := ⟨rfl, rfl, rfl, by decide +kernel, rfl, by decide +kernel, by decide +kernel⟩
abbrev s_Number_eq : Stmt := inClass (top 8) 1
theorem sc_Number_eq : FnScope ["self", "other"] ["self", "other"] (defScope s_Number_eq) := ⟨rfl, rfl, rfl, by decide +kernel, rfl, by decide +kernel, by decide +kernel⟩
abbrev s_Number_less : Stmt := inClass (top 8) 5
theorem sc_Number_less : FnScope ["self", "other"] ["self", "other"] (defScope s_Number_less) := ⟨rfl, rfl, rfl, by decide +kernel, rfl, by decide +kernel, by decide +kernel⟩
abbrev s_Number_times : Stmt := inClass (top 8) 6
theorem sc_Number_times : FnScope ["self", "other"] ["self", "other"] (defScope s_Number_times) := ⟨rfl, rfl, rfl, by decide +kernel, rfl, by decide +kernel, by decide +kernel⟩
abbrev s_Number_over : Stmt := inClass (top 8) 7
theorem sc_Number_over : FnScope ["self", "other"] ["self", "other"] (defScope s_Number_over) := ⟨rfl, rfl, rfl, by decide +kernel, rfl, by decide +kernel, by decide +kernel⟩
abbrev s_Number_below : Stmt := inClass (top 8) 8
theorem sc_Number_below : FnScope ["self", "other"] ["self", "other"] (defScope s_Number_below) := ⟨rfl, rfl, rfl, by decide +kernel, rfl, by decide +kernel, by decide +kernel⟩
abbrev s_Number_size : Stmt := inClass (top 8) 9
theorem sc_Number_size : FnScope ["self"] ["self"] (defScope s_Number_size) := ⟨rfl, rfl, rfl, by decide +kernel, rfl, by decide +kernel, by decide +kernel⟩
abbrev s_Number_floor : Stmt := inClass (top 8) 10
theorem sc_Number_floor : FnScope ["self"] ["self"] (defScope s_Number_floor) := ⟨rfl, rfl, rfl, by decide +kernel, rfl, by decide +kernel, by decide +kernel⟩
abbrev s_power_of : Stmt := top 9
theorem sc_power_of : FnScope ["number", "size", "power"] ["number"] (defScope s_power_of) := ⟨rfl, rfl, rfl, by decide +kernel, rfl, by decide +kernel, by decide +kernel⟩
abbrev s_ten_to : Stmt := top 10
theorem sc_ten_to : FnScope ["power", "great", "_"] ["power"] (defScope s_ten_to) := ⟨rfl, rfl, rfl, by decide +kernel, rfl, by decide +kernel, by decide +kernel⟩
abbrev s_shortest_holds : Stmt := top 13
theorem sc_shortest_holds : FnScope ["number", "step", "thing", "count", "places", "paper"] ["number", "step", "thing"] (defScope s_shortest_holds) := ⟨rfl, rfl, rfl, by decide +kernel, rfl, by decide +kernel, by decide +kernel⟩
abbrev s_is_paper : Stmt := top 14
theorem sc_is_paper : FnScope ["thing", "part"] ["thing"] (defScope s_is_paper) := ⟨rfl, rfl, rfl, by decide +kernel, rfl, by decide +kernel, by decide +kernel⟩
abbrev s_shows_none : Stmt := top 15
theorem sc_shows_none : FnScope ["paper", "places", "number", "step", "below", "above", "shifted"] ["paper", "places", "number", "step"] (defScope s_shows_none) := ⟨rfl, rfl, rfl, by decide +kernel, rfl, by decide +kernel, by decide +kernel⟩
abbrev s_leads_back_shortchecks : Stmt := top 16
theorem sc_leads_back_shortchecks : FnScope ["count", "places", "kept", "step", "off", "half"] ["count", "places", "kept", "step"] (defScope s_leads_back_shortchecks) := ⟨rfl, rfl, rfl, by decide +kernel, rfl, by decide +kernel, by decide +kernel⟩
abbrev s_rounded : Stmt := top 20
theorem sc_rounded : FnScope ["number", "step", "way", "taken"] ["number", "step", "way"] (defScope s_rounded) := ⟨rfl, rfl, rfl, by decide +kernel, rfl, by decide +kernel, by decide +kernel⟩
abbrev s_round_paper : Stmt := top 21
theorem sc_round_paper : FnScope ["number", "step", "way", "low", "high", "part", "rule"] ["number", "step", "way"] (defScope s_round_paper) := ⟨rfl, rfl, rfl, by decide +kernel, rfl, by decide +kernel, by decide +kernel⟩
abbrev s_place_of : Stmt := top 22
theorem sc_place_of : FnScope ["number", "step", "steps", "low", "part", "high"] ["number", "step"] (defScope s_place_of) := ⟨rfl, rfl, rfl, by decide +kernel, rfl, by decide +kernel, by decide +kernel⟩
abbrev s_by_up : Stmt := top 23
theorem sc_by_up : FnScope ["low", "part"] ["low", "part"] (defScope s_by_up) := ⟨rfl, rfl, rfl, by decide +kernel, rfl, by decide +kernel, by decide +kernel⟩
abbrev s_by_down : Stmt := top 24
theorem sc_by_down : FnScope ["low", "part"] ["low", "part"] (defScope s_by_down) := ⟨rfl, rfl, rfl, by decide +kernel, rfl, by decide +kernel, by decide +kernel⟩
abbrev s_by_high : Stmt := top 25
theorem sc_by_high : FnScope ["low", "part"] ["low", "part"] (defScope s_by_high) := ⟨rfl, rfl, rfl, by decide +kernel, rfl, by decide +kernel, by decide +kernel⟩
abbrev s_by_low : Stmt := top 26
theorem sc_by_low : FnScope ["low", "part"] ["low", "part"] (defScope s_by_low) := ⟨rfl, rfl, rfl, by decide +kernel, rfl, by decide +kernel, by decide +kernel⟩
abbrev s_by_half_up : Stmt := top 27
theorem sc_by_half_up : FnScope ["low", "part"] ["low", "part"] (defScope s_by_half_up) := ⟨rfl, rfl, rfl, by decide +kernel, rfl, by decide +kernel, by decide +kernel⟩
abbrev s_by_half_down : Stmt := top 28
theorem sc_by_half_down : FnScope ["low", "part"] ["low", "part"] (defScope s_by_half_down) := ⟨rfl, rfl, rfl, by decide +kernel, rfl, by decide +kernel, by decide +kernel⟩
abbrev s_by_half_even : Stmt := top 29
theorem sc_by_half_even : FnScope ["low", "part"] ["low", "part"] (defScope s_by_half_even) := ⟨rfl, rfl, rfl, by decide +kernel, rfl, by decide +kernel, by decide +kernel⟩
abbrev s_by_half_odd : Stmt := top 30
theorem sc_by_half_odd : FnScope ["low", "part"] ["low", "part"] (defScope s_by_half_odd) := ⟨rfl, rfl, rfl, by decide +kernel, rfl, by decide +kernel, by decide +kernel⟩
abbrev s_nearer : Stmt := top 31
theorem sc_nearer : FnScope ["part", "at_half", "doubled"] ["part", "at_half"] (defScope s_nearer) := ⟨rfl, rfl, rfl, by decide +kernel, rfl, by decide +kernel, by decide +kernel⟩
abbrev s_shortest : Stmt := top 34
theorem sc_shortest : FnScope ["number", "step", "places", "count", "below"] ["number", "step"] (defScope s_shortest) := ⟨rfl, rfl, rfl, by decide +kernel, rfl, by decide +kernel, by decide +kernel⟩
abbrev s_fewest_places : Stmt := top 35
theorem sc_fewest_places : FnScope ["number", "step", "least", "most", "middle"] ["number", "step"] (defScope s_fewest_places) := ⟨rfl, rfl, rfl, by decide +kernel, rfl, by decide +kernel, by decide +kernel⟩
abbrev s_leads_back_shortest : Stmt := top 36
theorem sc_leads_back_shortest : FnScope ["number", "step", "places", "near"] ["number", "step", "places"] (defScope s_leads_back_shortest) := ⟨rfl, rfl, rfl, by decide +kernel, rfl, by decide +kernel, by decide +kernel⟩
abbrev s_nearest : Stmt := top 38
theorem sc_nearest : FnScope ["number", "places"] ["number", "places"] (defScope s_nearest) := ⟨rfl, rfl, rfl, by decide +kernel, rfl, by decide +kernel, by decide +kernel⟩
abbrev s_is_greater_nearer : Stmt := top 39
theorem sc_is_greater_nearer : FnScope ["count", "part"] ["count", "part"] (defScope s_is_greater_nearer) := ⟨rfl, rfl, rfl, by decide +kernel, rfl, by decide +kernel, by decide +kernel⟩
abbrev s_l_deck : Stmt := top 41
theorem sc_l_deck : FnScope ["_law_script", "_law_cells", "_law_seed", "_law_cell"] ["_law_script"] (defScope s_l_deck) := ⟨rfl, rfl, rfl, by decide +kernel, rfl, by decide +kernel, by decide +kernel⟩
abbrev s_l_draw : Stmt := top 42
theorem sc_l_draw : FnScope ["_law_deck_here", "_law_ways", "_law_cell", "_law_number"] ["_law_deck_here", "_law_ways"] (defScope s_l_draw) := ⟨rfl, rfl, rfl, by decide +kernel, rfl, by decide +kernel, by decide +kernel⟩
abbrev s_l_grain : Stmt := top 43
theorem sc_l_grain : FnScope ["_law_deck_here", "_law_tens", "_law_some"] ["_law_deck_here"] (defScope s_l_grain) := ⟨rfl, rfl, rfl, by decide +kernel, rfl, by decide +kernel, by decide +kernel⟩
abbrev s_l_steps : Stmt := top 44
theorem sc_l_steps : FnScope ["_law_number", "_law_grain_here", "_law_top", "_law_bottom", "_law_low"] ["_law_number", "_law_grain_here"] (defScope s_l_steps) := ⟨rfl, rfl, rfl, by decide +kernel, rfl, by decide +kernel, by decide +kernel⟩
abbrev s_l_count : Stmt := top 45
theorem sc_l_count : FnScope ["_law_number", "_law_grain_here", "_law_rule", "_law_low", "_law_rest", "_law_whole_here", "_law_above", "_law_far", "_law_near", "_law_by_name", "_law_even"] ["_law_number", "_law_grain_here", "_law_rule"] (defScope s_l_count) := ⟨rfl, rfl, rfl, by decide +kernel, rfl, by decide +kernel, by decide +kernel⟩
abbrev s_l_kept : Stmt := top 46
theorem sc_l_kept : FnScope ["_law_deck_here", "_law_grain_here", "_law_some", "_law_count_here"] ["_law_deck_here", "_law_grain_here"] (defScope s_l_kept) := ⟨rfl, rfl, rfl, by decide +kernel, rfl, by decide +kernel, by decide +kernel⟩
abbrev s_l_whole : Stmt := top 47
theorem sc_l_whole : FnScope ["_law_thing"] ["_law_thing"] (defScope s_l_whole) := ⟨rfl, rfl, rfl, by decide +kernel, rfl, by decide +kernel, by decide +kernel⟩
abbrev s_l_leads : Stmt := top 48
theorem sc_l_leads : FnScope ["_law_count_here", "_law_tens", "_law_kept_here", "_law_grain_here"] ["_law_count_here", "_law_tens", "_law_kept_here", "_law_grain_here"] (defScope s_l_leads) := ⟨rfl, rfl, rfl, by decide +kernel, rfl, by decide +kernel, by decide +kernel⟩
abbrev s_l_is_triple : Stmt := top 49
theorem sc_l_is_triple : FnScope ["_law_kept_here", "_law_grain_here", "_law_thing", "_law_count_here", "_law_places_told", "_law_paper", "_law_tens", "_law_fewer", "_law_turn", "_law_low"] ["_law_kept_here", "_law_grain_here", "_law_thing"] (defScope s_l_is_triple) := ⟨rfl, rfl, rfl, by decide +kernel, rfl, by decide +kernel, by decide +kernel⟩
abbrev s_l_odd : Stmt := top 50
theorem sc_l_odd : FnScope ["_law_deck_here", "_law_thing", "_law_some"] ["_law_deck_here", "_law_thing"] (defScope s_l_odd) := ⟨rfl, rfl, rfl, by decide +kernel, rfl, by decide +kernel, by decide +kernel⟩
abbrev s_l_bent : Stmt := top 51
theorem sc_l_bent : FnScope ["_law_deck_here", "_law_thing", "_law_how", "_law_at", "_law_rows", "_law_inner"] ["_law_deck_here", "_law_thing", "_law_how"] (defScope s_l_bent) := ⟨rfl, rfl, rfl, by decide +kernel, rfl, by decide +kernel, by decide +kernel⟩
abbrev s_l_right : Stmt := top 52
theorem sc_l_right : FnScope ["_law_here", "_law_unit_step", "_law_kept_here", "_law_grain_here", "_law_thing", "_law_before", "_law_found"] ["_law_here", "_law_unit_step", "_law_kept_here", "_law_grain_here", "_law_thing"] (defScope s_l_right) := ⟨rfl, rfl, rfl, by decide +kernel, rfl, by decide +kernel, by decide +kernel⟩
abbrev s_law : Stmt := top 53
theorem sc_law : FnScope ["_law_script", "_law_deck_here", "_law_turn", "_law_hows", "_law_grain_here", "_law_kept_here", "_law_here", "_law_unit_step", "_law_told", "_law_things", "_law_how", "_law_more", "_law_twice", "_law_bent_here", "_law_thing", "_law_k"] ["_law_script"] (defScope s_law) := ⟨rfl, rfl, rfl, by decide +kernel, rfl, by decide +kernel, by decide +kernel⟩
structure Txt (w : World) (K : PySem.W.Frag) (mg : Str → Option Value) where
  C_Number : Addr
  m_Number : mg "Number" = some (.ref C_Number)
  c_Number : Cls K C_Number
  n_Number_top : NoAttr K C_Number "top"
  n_Number_bottom : NoAttr K C_Number "bottom"
  ty_Number_c : PySem.W.findIn K (.ref C_Number) "__class__" = some (some (.builtin "object.__class__"))
  ty_Number_g : PySem.W.specialIn K (.builtin "object.__class__") "__get__" = some (some (.builtin "getset_descriptor.__get__"))
  ty_Number_t : PySem.W.takesIn K (.builtin "object.__class__") = some true
  ty_Number_m : PySem.W.mroIn K C_Number (.type "object") = some true
  ty_Number_k : PySem.W.kitOne K (.ref C_Number) (.ref C_Number) = some true
  ne_Number : PySem.W.findIn K (.ref C_Number) "__ne__" = some (some (.builtin "object.__ne__"))
  f_is_whole : Addr
  fd_is_whole : FuncData
  F_is_whole : Fun K "is_whole" "is_whole" s_is_whole f_is_whole fd_is_whole
  m_is_whole : mg "is_whole" = some (.ref f_is_whole)
  b_is_whole : Binds K fd_is_whole ["thing"] []
  f_is_whole_between : Addr
  fd_is_whole_between : FuncData
  F_is_whole_between : Fun K "is_whole_between" "is_whole_between" s_is_whole_between f_is_whole_between fd_is_whole_between
  m_is_whole_between : mg "is_whole_between" = some (.ref f_is_whole_between)
  b_is_whole_between : Binds K fd_is_whole_between ["thing", "least", "most"] []
  f_Number_init : Addr
  fd_Number_init : FuncData
  F_Number_init : FunD K "__init__" "Number.__init__" (defArgs s_Number_init) (defBody s_Number_init) (defScope s_Number_init) [V.int 1] [] f_Number_init fd_Number_init
  mk_Number : Mk K C_Number f_Number_init
  b_Number_init2 : Binds K fd_Number_init ["self", "top", "bottom"] []
  ds_Number_init1 : List Value
  d_Number_init1 : Vals [V.int 1] ds_Number_init1
  b_Number_init1 : Binds K fd_Number_init ["self", "top", "bottom"] ds_Number_init1
  f_Number_eq : Addr
  fd_Number_eq : FuncData
  F_Number_eq : Fun K "__eq__" "Number.__eq__" s_Number_eq f_Number_eq fd_Number_eq
  me_Number_eq : Meth K C_Number "__eq__" f_Number_eq
  b_Number_eq : Binds K fd_Number_eq ["self", "other"] []
  f_Number_less : Addr
  fd_Number_less : FuncData
  F_Number_less : Fun K "less" "Number.less" s_Number_less f_Number_less fd_Number_less
  me_Number_less : Meth K C_Number "less" f_Number_less
  b_Number_less : Binds K fd_Number_less ["self", "other"] []
  f_Number_times : Addr
  fd_Number_times : FuncData
  F_Number_times : Fun K "times" "Number.times" s_Number_times f_Number_times fd_Number_times
  me_Number_times : Meth K C_Number "times" f_Number_times
  b_Number_times : Binds K fd_Number_times ["self", "other"] []
  f_Number_over : Addr
  fd_Number_over : FuncData
  F_Number_over : Fun K "over" "Number.over" s_Number_over f_Number_over fd_Number_over
  me_Number_over : Meth K C_Number "over" f_Number_over
  b_Number_over : Binds K fd_Number_over ["self", "other"] []
  f_Number_below : Addr
  fd_Number_below : FuncData
  F_Number_below : Fun K "below" "Number.below" s_Number_below f_Number_below fd_Number_below
  me_Number_below : Meth K C_Number "below" f_Number_below
  b_Number_below : Binds K fd_Number_below ["self", "other"] []
  f_Number_size : Addr
  fd_Number_size : FuncData
  F_Number_size : Fun K "size" "Number.size" s_Number_size f_Number_size fd_Number_size
  me_Number_size : Meth K C_Number "size" f_Number_size
  b_Number_size : Binds K fd_Number_size ["self"] []
  f_Number_floor : Addr
  fd_Number_floor : FuncData
  F_Number_floor : Fun K "floor" "Number.floor" s_Number_floor f_Number_floor fd_Number_floor
  me_Number_floor : Meth K C_Number "floor" f_Number_floor
  b_Number_floor : Binds K fd_Number_floor ["self"] []
  f_power_of : Addr
  fd_power_of : FuncData
  F_power_of : Fun K "power_of" "power_of" s_power_of f_power_of fd_power_of
  m_power_of : mg "power_of" = some (.ref f_power_of)
  b_power_of : Binds K fd_power_of ["number"] []
  f_ten_to : Addr
  fd_ten_to : FuncData
  F_ten_to : Fun K "ten_to" "ten_to" s_ten_to f_ten_to fd_ten_to
  m_ten_to : mg "ten_to" = some (.ref f_ten_to)
  b_ten_to : Binds K fd_ten_to ["power"] []
  f_shortest_holds : Addr
  fd_shortest_holds : FuncData
  F_shortest_holds : Fun K "shortest_holds" "shortest_holds" s_shortest_holds f_shortest_holds fd_shortest_holds
  m_shortest_holds : mg "shortest_holds" = some (.ref f_shortest_holds)
  b_shortest_holds : Binds K fd_shortest_holds ["number", "step", "thing"] []
  f_is_paper : Addr
  fd_is_paper : FuncData
  F_is_paper : Fun K "_is_paper" "_is_paper" s_is_paper f_is_paper fd_is_paper
  m_is_paper : mg "_is_paper" = some (.ref f_is_paper)
  b_is_paper : Binds K fd_is_paper ["thing"] []
  f_shows_none : Addr
  fd_shows_none : FuncData
  F_shows_none : Fun K "_shows_none" "_shows_none" s_shows_none f_shows_none fd_shows_none
  m_shows_none : mg "_shows_none" = some (.ref f_shows_none)
  b_shows_none : Binds K fd_shows_none ["paper", "places", "number", "step"] []
  f_leads_back_shortchecks : Addr
  fd_leads_back_shortchecks : FuncData
  F_leads_back_shortchecks : Fun K "_leads_back" "_leads_back" s_leads_back_shortchecks f_leads_back_shortchecks fd_leads_back_shortchecks
  m_leads_back_shortchecks : mg "leads_back_shortchecks" = some (.ref f_leads_back_shortchecks)
  b_leads_back_shortchecks : Binds K fd_leads_back_shortchecks ["count", "places", "kept", "step"] []
  f_rounded : Addr
  fd_rounded : FuncData
  F_rounded : FunD K "rounded" "rounded" (defArgs s_rounded) (defBody s_rounded) (defScope s_rounded) [] [(("way" : Str), V.str "half even")] f_rounded fd_rounded
  m_rounded : mg "rounded" = some (.ref f_rounded)
  kb_rounded : KBn K fd_rounded ["number", "step", "way"] 2 ["way"] (fun us ws => us ++ ws) (fun vs zs => vs ++ zs)
  ds_rounded : List Value
  d_rounded : Vals [V.str "half even"] ds_rounded
  b_rounded : Binds K fd_rounded ["number", "step", "way"] ds_rounded
  f_round_paper : Addr
  fd_round_paper : FuncData
  F_round_paper : FunD K "round_paper" "round_paper" (defArgs s_round_paper) (defBody s_round_paper) (defScope s_round_paper) [] [(("way" : Str), V.str "half even")] f_round_paper fd_round_paper
  m_round_paper : mg "round_paper" = some (.ref f_round_paper)
  kb_round_paper : KBn K fd_round_paper ["number", "step", "way"] 2 ["way"] (fun us ws => us ++ ws) (fun vs zs => vs ++ zs)
  ds_round_paper : List Value
  d_round_paper : Vals [V.str "half even"] ds_round_paper
  b_round_paper : Binds K fd_round_paper ["number", "step", "way"] ds_round_paper
  f_place_of : Addr
  fd_place_of : FuncData
  F_place_of : Fun K "place_of" "place_of" s_place_of f_place_of fd_place_of
  m_place_of : mg "place_of" = some (.ref f_place_of)
  b_place_of : Binds K fd_place_of ["number", "step"] []
  f_by_up : Addr
  fd_by_up : FuncData
  F_by_up : Fun K "_by_up" "_by_up" s_by_up f_by_up fd_by_up
  m_by_up : mg "_by_up" = some (.ref f_by_up)
  b_by_up : Binds K fd_by_up ["low", "part"] []
  f_by_down : Addr
  fd_by_down : FuncData
  F_by_down : Fun K "_by_down" "_by_down" s_by_down f_by_down fd_by_down
  m_by_down : mg "_by_down" = some (.ref f_by_down)
  b_by_down : Binds K fd_by_down ["low", "part"] []
  f_by_high : Addr
  fd_by_high : FuncData
  F_by_high : Fun K "_by_high" "_by_high" s_by_high f_by_high fd_by_high
  m_by_high : mg "_by_high" = some (.ref f_by_high)
  b_by_high : Binds K fd_by_high ["low", "part"] []
  f_by_low : Addr
  fd_by_low : FuncData
  F_by_low : Fun K "_by_low" "_by_low" s_by_low f_by_low fd_by_low
  m_by_low : mg "_by_low" = some (.ref f_by_low)
  b_by_low : Binds K fd_by_low ["low", "part"] []
  f_by_half_up : Addr
  fd_by_half_up : FuncData
  F_by_half_up : Fun K "_by_half_up" "_by_half_up" s_by_half_up f_by_half_up fd_by_half_up
  m_by_half_up : mg "_by_half_up" = some (.ref f_by_half_up)
  b_by_half_up : Binds K fd_by_half_up ["low", "part"] []
  f_by_half_down : Addr
  fd_by_half_down : FuncData
  F_by_half_down : Fun K "_by_half_down" "_by_half_down" s_by_half_down f_by_half_down fd_by_half_down
  m_by_half_down : mg "_by_half_down" = some (.ref f_by_half_down)
  b_by_half_down : Binds K fd_by_half_down ["low", "part"] []
  f_by_half_even : Addr
  fd_by_half_even : FuncData
  F_by_half_even : Fun K "_by_half_even" "_by_half_even" s_by_half_even f_by_half_even fd_by_half_even
  m_by_half_even : mg "_by_half_even" = some (.ref f_by_half_even)
  b_by_half_even : Binds K fd_by_half_even ["low", "part"] []
  f_by_half_odd : Addr
  fd_by_half_odd : FuncData
  F_by_half_odd : Fun K "_by_half_odd" "_by_half_odd" s_by_half_odd f_by_half_odd fd_by_half_odd
  m_by_half_odd : mg "_by_half_odd" = some (.ref f_by_half_odd)
  b_by_half_odd : Binds K fd_by_half_odd ["low", "part"] []
  f_nearer : Addr
  fd_nearer : FuncData
  F_nearer : Fun K "_nearer" "_nearer" s_nearer f_nearer fd_nearer
  m_nearer : mg "_nearer" = some (.ref f_nearer)
  b_nearer : Binds K fd_nearer ["part", "at_half"] []
  f_shortest : Addr
  fd_shortest : FuncData
  F_shortest : Fun K "shortest" "shortest" s_shortest f_shortest fd_shortest
  m_shortest : mg "shortest" = some (.ref f_shortest)
  b_shortest : Binds K fd_shortest ["number", "step"] []
  f_fewest_places : Addr
  fd_fewest_places : FuncData
  F_fewest_places : Fun K "_fewest_places" "_fewest_places" s_fewest_places f_fewest_places fd_fewest_places
  m_fewest_places : mg "_fewest_places" = some (.ref f_fewest_places)
  b_fewest_places : Binds K fd_fewest_places ["number", "step"] []
  f_leads_back_shortest : Addr
  fd_leads_back_shortest : FuncData
  F_leads_back_shortest : Fun K "_leads_back" "_leads_back" s_leads_back_shortest f_leads_back_shortest fd_leads_back_shortest
  m_leads_back_shortest : mg "leads_back_shortest" = some (.ref f_leads_back_shortest)
  b_leads_back_shortest : Binds K fd_leads_back_shortest ["number", "step", "places"] []
  f_nearest : Addr
  fd_nearest : FuncData
  F_nearest : Fun K "_nearest" "_nearest" s_nearest f_nearest fd_nearest
  m_nearest : mg "_nearest" = some (.ref f_nearest)
  b_nearest : Binds K fd_nearest ["number", "places"] []
  f_is_greater_nearer : Addr
  fd_is_greater_nearer : FuncData
  F_is_greater_nearer : Fun K "_is_greater_nearer" "_is_greater_nearer" s_is_greater_nearer f_is_greater_nearer fd_is_greater_nearer
  m_is_greater_nearer : mg "_is_greater_nearer" = some (.ref f_is_greater_nearer)
  b_is_greater_nearer : Binds K fd_is_greater_nearer ["count", "part"] []
  f_l_deck : Addr
  fd_l_deck : FuncData
  F_l_deck : Fun K "_law_deck" "_law_deck" s_l_deck f_l_deck fd_l_deck
  m_l_deck : mg "_law_deck" = some (.ref f_l_deck)
  b_l_deck : Binds K fd_l_deck ["_law_script"] []
  f_l_draw : Addr
  fd_l_draw : FuncData
  F_l_draw : Fun K "_law_draw" "_law_draw" s_l_draw f_l_draw fd_l_draw
  m_l_draw : mg "_law_draw" = some (.ref f_l_draw)
  b_l_draw : Binds K fd_l_draw ["_law_deck_here", "_law_ways"] []
  f_l_grain : Addr
  fd_l_grain : FuncData
  F_l_grain : Fun K "_law_grain" "_law_grain" s_l_grain f_l_grain fd_l_grain
  m_l_grain : mg "_law_grain" = some (.ref f_l_grain)
  b_l_grain : Binds K fd_l_grain ["_law_deck_here"] []
  f_l_steps : Addr
  fd_l_steps : FuncData
  F_l_steps : Fun K "_law_steps" "_law_steps" s_l_steps f_l_steps fd_l_steps
  m_l_steps : mg "_law_steps" = some (.ref f_l_steps)
  b_l_steps : Binds K fd_l_steps ["_law_number", "_law_grain_here"] []
  f_l_count : Addr
  fd_l_count : FuncData
  F_l_count : Fun K "_law_count" "_law_count" s_l_count f_l_count fd_l_count
  m_l_count : mg "_law_count" = some (.ref f_l_count)
  b_l_count : Binds K fd_l_count ["_law_number", "_law_grain_here", "_law_rule"] []
  f_l_kept : Addr
  fd_l_kept : FuncData
  F_l_kept : Fun K "_law_kept" "_law_kept" s_l_kept f_l_kept fd_l_kept
  m_l_kept : mg "_law_kept" = some (.ref f_l_kept)
  b_l_kept : Binds K fd_l_kept ["_law_deck_here", "_law_grain_here"] []
  f_l_whole : Addr
  fd_l_whole : FuncData
  F_l_whole : Fun K "_law_whole" "_law_whole" s_l_whole f_l_whole fd_l_whole
  m_l_whole : mg "_law_whole" = some (.ref f_l_whole)
  b_l_whole : Binds K fd_l_whole ["_law_thing"] []
  f_l_leads : Addr
  fd_l_leads : FuncData
  F_l_leads : Fun K "_law_leads" "_law_leads" s_l_leads f_l_leads fd_l_leads
  m_l_leads : mg "_law_leads" = some (.ref f_l_leads)
  b_l_leads : Binds K fd_l_leads ["_law_count_here", "_law_tens", "_law_kept_here", "_law_grain_here"] []
  f_l_is_triple : Addr
  fd_l_is_triple : FuncData
  F_l_is_triple : Fun K "_law_is_triple" "_law_is_triple" s_l_is_triple f_l_is_triple fd_l_is_triple
  m_l_is_triple : mg "_law_is_triple" = some (.ref f_l_is_triple)
  b_l_is_triple : Binds K fd_l_is_triple ["_law_kept_here", "_law_grain_here", "_law_thing"] []
  f_l_odd : Addr
  fd_l_odd : FuncData
  F_l_odd : Fun K "_law_odd" "_law_odd" s_l_odd f_l_odd fd_l_odd
  m_l_odd : mg "_law_odd" = some (.ref f_l_odd)
  b_l_odd : Binds K fd_l_odd ["_law_deck_here", "_law_thing"] []
  f_l_bent : Addr
  fd_l_bent : FuncData
  F_l_bent : Fun K "_law_bent" "_law_bent" s_l_bent f_l_bent fd_l_bent
  m_l_bent : mg "_law_bent" = some (.ref f_l_bent)
  b_l_bent : Binds K fd_l_bent ["_law_deck_here", "_law_thing", "_law_how"] []
  f_l_right : Addr
  fd_l_right : FuncData
  F_l_right : Fun K "_law_right" "_law_right" s_l_right f_l_right fd_l_right
  m_l_right : mg "_law_right" = some (.ref f_l_right)
  b_l_right : Binds K fd_l_right ["_law_here", "_law_unit_step", "_law_kept_here", "_law_grain_here", "_law_thing"] []
  f_law : Addr
  fd_law : FuncData
  F_law : Fun K "law" "law" s_law f_law fd_law
  m_law : mg "law" = some (.ref f_law)
  b_law : Binds K fd_law ["_law_script"] []
  fo_is_greater_nearer : ∃ o, K.lookup f_is_greater_nearer = some o ∧ o.cls = .type "function"
  m_gcd : mg "gcd" = some (.builtin "math.gcd")
  n_range : mg "range" = none
  n_isinstance : mg "isinstance" = none
  n_str : mg "str" = none
  n_int : mg "int" = none
  n_list : mg "list" = none
  n_len : mg "len" = none
  n_abs : mg "abs" = none
  n_max : mg "max" = none
  n_bool : mg "bool" = none
  n_repr : mg "repr" = none
  n_tuple : mg "tuple" = none
  n_all : mg "all" = none
  u_MOST_PLACES : Value
  m_MOST_PLACES : mg "MOST_PLACES" = some u_MOST_PLACES
  r_MOST_PLACES : RelV (.int 60) u_MOST_PLACES
  D_RULES : Addr
  m_RULES : mg "RULES" = some (.ref D_RULES)
  es_RULES : Array DictEntry
  en_RULES : Nat
  l_RULES : K.lookup D_RULES = some ⟨.type "dict", none, .dict es_RULES en_RULES, #[]⟩
  k_RULES : PySem.W.KeysLit w.params es_RULES.toList
  rule_by_up : PySem.W.nsIn K D_RULES "up" = some (some (.ref f_by_up))
  rule_by_down : PySem.W.nsIn K D_RULES "down" = some (some (.ref f_by_down))
  rule_by_high : PySem.W.nsIn K D_RULES "high" = some (some (.ref f_by_high))
  rule_by_low : PySem.W.nsIn K D_RULES "low" = some (some (.ref f_by_low))
  rule_by_half_up : PySem.W.nsIn K D_RULES "half up" = some (some (.ref f_by_half_up))
  rule_by_half_down : PySem.W.nsIn K D_RULES "half down" = some (some (.ref f_by_half_down))
  rule_by_half_even : PySem.W.nsIn K D_RULES "half even" = some (some (.ref f_by_half_even))
  rule_by_half_odd : PySem.W.nsIn K D_RULES "half odd" = some (some (.ref f_by_half_odd))

section
variable {P : Program} {w : World} {K : PySem.W.Frag} {mg : Str → Option Value} {base : Heap}
/-! ### Number -/
def nf (q : Rat) : List (Str × V) := [("top", .int q.num), ("bottom", .int (q.den : Int))]
theorem tb_ : ¬ (("top" : Str) = "bottom") := by decide +kernel
theorem bt_ : ¬ (("bottom" : Str) = "top") := by decide +kernel
theorem nf_put (a b : Int) : putF "bottom" (.int b) (putF "top" (.int a) []) = ([("top", V.int a), ("bottom", V.int b)] : List (Str × V)) := by
  show (if ("top" : Str) = "bottom" then [(("top" : Str), V.int b)] else (("top" : Str), V.int a) :: putF "bottom" (V.int b) []) = ([("top", V.int a), ("bottom", V.int b)] : List (Str × V))
  rw [if_neg tb_]
  all_goals rfl
theorem nf_top (q : Rat) : (nf q).lookup ("top" : Str) = some (.int q.num) := by
  have e : (("top" : Str) == "top") = true := by decide +kernel
  unfold nf
  simp only [List.lookup, e]
theorem nf_bottom (q : Rat) : (nf q).lookup ("bottom" : Str) = some (.int (q.den : Int)) := by
  have e : (("bottom" : Str) == "top") = false := by decide +kernel
  have e' : (("bottom" : Str) == "bottom") = true := by decide +kernel
  unfold nf
  simp only [List.lookup, e, e']
theorem nf_no (q : Rat) {m : Str} (h1 : (m == "top") = false) (h2 : (m == "bottom") = false) : (nf q).lookup m = none := by
  unfold nf
  simp only [List.lookup, h1, h2]
/-- the Number q stands at p -/
def NumAt (C : Addr) (H : Hp) (p : Addr) (q : Rat) : Prop := ∃ dx, H p = some (.ins C dx (nf q))
theorem NumAt.same {C : Addr} {H H' : Hp} {p : Addr} {q : Rat} (s : Same H H') (h : NumAt C H p q) : NumAt C H' p q := let ⟨dx, e⟩ := h; ⟨dx, s _ _ e⟩

def spInit (C : Addr) : Sp := fun vs H Q _ => ∃ (p dx : Addr) (t b : Int), vs = [.ref p, .int t, .int b] ∧ H p = some (.ins C dx []) ∧ b ≠ 0 ∧ b.natAbs < 2 ^ 9000 ∧ Q .non (upd H p (.ins C dx (nf (Rat.divInt t b))))
theorem ok_Number_init (T : Txt w K mg) : FnOk P w K mg base CX0 1 T.f_Number_init T.fd_Number_init ["self", "top", "bottom"] (spInit T.C_Number) := by
  refine T.F_Number_init.ok sc_Number_init (fun vs H Q E h => ?_) (fun cdv A outer s H vs Q E hr h => ?_)
  · obtain ⟨p, dx, t, b, rfl, _⟩ := h
    rfl
  · obtain ⟨p, dx, t, b, rfl, hp, hb, hl, k⟩ := h
    refine ⟨_, (pss_cons (ps_if (pt_cmpR op_eq (pv 2) pe_int (nomark _))
  (pss_one ps_never)
  pss_nil)
 (pss_cons (ps_set (i := 3) sc_Number_init.nd rfl (Or.inl rfl) (pe_callBfun cr_gcd (by rfl) T.m_gcd (pa_cons (pv 1) (pa_cons (pv 2) pa_nil))))
 (pss_cons (ps_if (pt_cmpR op_lt (pv 2) pe_int (nomark _))
  (pss_one (ps_set (i := 3) sc_Number_init.nd rfl (Or.inl rfl) (pe_un un_neg (pv 3))))
  pss_nil)
 (pss_cons (ps_fld (pv 0) (pe_op op_fdivA (pv 1) (pv 3)) rfl)
 (pss_one (ps_fld (pv 0) (pe_op op_fdivA (pv 2) (pv 3)) rfl)))))), ?_⟩
    walk_at "rd"
    refine r_iteF (decide_eq_false hb) ?_
    walk_at "rd"
    refine ⟨_, _, rfl, ?_⟩
    have fin : ∀ c : Int, c = cdiv t b → sFld K (tVar 0) (tOp (rI CDivA fun i j => .int (i.fdiv j)) (tVar 1) (tVar 3)) "top" ⟨sFld K (tVar 0) (tOp (rI CDivA fun i j => .int (i.fdiv j)) (tVar 2) (tVar 3)) "bottom" ⟨fun _ H' => Q .non H', Q, fun _ _ => False, fun _ _ => False⟩, Q, fun _ _ => False, fun _ _ => False⟩ [some (.ref p), some (.int t), some (.int b), some (.int c)] H := by
      rintro c rfl
      have hg := gcd_pos (t := t) hb
      have hc : CDivA t (cdiv t b) ∧ CDivA b (cdiv t b) := by
        have n0 : cdiv t b ≠ 0 := by unfold cdiv; split <;> omega
        have nb : (cdiv t b).natAbs < 2 ^ 9000 := by
          have le : Nat.gcd t.natAbs b.natAbs ≤ b.natAbs := Nat.le_of_dvd (by omega) (Nat.gcd_dvd_right _ _)
          have e : (cdiv t b).natAbs = Nat.gcd t.natAbs b.natAbs := by unfold cdiv; split <;> omega
          rw [e]
          exact Nat.lt_of_le_of_lt le hl
        exact ⟨cdivA n0 nb (by decide) (Nat.le_refl _), cdivA n0 nb (by decide) (Nat.le_refl _)⟩
      walk_at "rd"
      refine r_I hc.1 ?_
      walk_at "rd"
      refine ⟨p, T.C_Number, dx, [], rfl, hp, T.c_Number, T.n_Number_top, (by show 0 < 1000; decide), ?_⟩
      walk_at "rd"
      refine r_I hc.2 ?_
      walk_at "rd"
      refine ⟨p, T.C_Number, dx, _, rfl, upd_same, T.c_Number, T.n_Number_bottom, (by show 1 < 1000; decide), ?_⟩
      show Q .non (upd (upd H p _) p (.ins T.C_Number dx (putF "bottom" _ (putF "top" _ []))))
      rw [upd_upd, nf_put, num_of hb, den_of hb]
      exact k
    walk_at "rd"
    refine r_ite (fun hn => ?_) (fun hn => ?_)
    · iterate 5 walk_at "rd1"
      refine fin _ ?_
      unfold cdiv
      rw [if_pos (of_decide_eq_true hn)]
    · iterate 1 walk_at "rd1"
      refine fin _ ?_
      unfold cdiv
      rw [if_neg (of_decide_eq_false hn)]
end
end My
local macro_rules | `(tactic| walk_at "fld") => `(tactic| refine My.r_fld (by assumption) (by assumption) (by assumption) (by first | exact My.nf_top _ | exact My.nf_bottom _) ?_)
local macro_rules | `(tactic| walk_at "rdf") => `(tactic| (repeat (first | walk_at "rd1" | walk_at "fld")))


namespace My
open PySem L2
section
variable {P : Program} {w : World} {K : PySem.W.Frag} {mg : Str → Option Value} {base : Heap}
/-- a Number made at once -/
theorem mk_num {C : Addr} {H : Hp} {t b : Int} {R : Addr → Hp → Prop} {E : XK} (hb : b ≠ 0) (hl : b.natAbs < 2 ^ 9000) (q : ∀ (p : Addr) (H' : Hp), Same H H' → H p = none → NumAt C H' p (Rat.divInt t b) → R p H') :
    ∀ x dx, H x = none → H dx = none → dx ≠ x → spInit C (.ref x :: ([V.int t, V.int b] ++ [])) (upd (upd H dx (.own x)) x (.ins C dx [])) (fun v H2 => v = .non ∧ R x H2) E := by
  intro x dx nx ndx ne
  refine ⟨x, dx, t, b, rfl, upd_same, hb, hl, rfl, q x _ (fun y o e => ?_) nx ⟨dx, upd_same⟩⟩
  rw [upd_ne (ne_of_none e nx), upd_ne (ne_of_none e nx), upd_ne (ne_of_none e ndx)]
  exact e
theorem mk_num1 {C : Addr} {H : Hp} {t : Int} {R : Addr → Hp → Prop} {E : XK} (q : ∀ (p : Addr) (H' : Hp), Same H H' → H p = none → NumAt C H' p (t : Rat) → R p H') :
    ∀ x dx, H x = none → H dx = none → dx ≠ x → spInit C (.ref x :: ([V.int t] ++ [V.int 1])) (upd (upd H dx (.own x)) x (.ins C dx [])) (fun v H2 => v = .non ∧ R x H2) E :=
  mk_num (by decide) (Nat.lt_of_lt_of_le (by decide : Int.natAbs 1 < 2 ^ 1) (Nat.pow_le_pow_right (by decide) (by decide))) fun p H' s n h => q p H' s n (divInt_one t ▸ h)
/-- two Numbers in, one out -/
def spBin (C : Addr) (f : Rat → Rat → Rat) (ok : Rat → Rat → Prop) : Sp := fun vs H Q _ => ∃ (p q : Addr) (x y : Rat), vs = [.ref p, .ref q] ∧ NumAt C H p x ∧ NumAt C H q y ∧ Bd 4000 x ∧ Bd 4000 y ∧ ok x y ∧
  ∀ (r : Addr) (H' : Hp), Same H H' → H r = none → NumAt C H' r (f x y) → Q (.ref r) H'
theorem bd_den {n : Nat} {x : Rat} (h : Bd n x) : ((x.den : Nat) : Int).natAbs < 2 ^ n := by have := h.2; omega
theorem dd_ne (x y : Rat) : (x.den : Int) * (y.den : Int) ≠ 0 := Int.mul_ne_zero (den_ne x) (den_ne y)
theorem dd_lt {x y : Rat} (hx : Bd 4000 x) (hy : Bd 4000 y) : ((x.den : Int) * (y.den : Int)).natAbs < 2 ^ 9000 := natAbs_mul_lt (bd_den hx) (bd_den hy) (by decide)
theorem cm {i j : Int} (hi : i.natAbs < 2 ^ 4000) (hj : j.natAbs < 2 ^ 4000) : CMulW i j := wide_mul hi hj (by decide) (by decide) (by decide)
theorem ok_Number_less (T : Txt w K mg) : FnOk P w K mg base CX0 3 T.f_Number_less T.fd_Number_less ["self", "other"] (spBin T.C_Number (fun x y => x - y) fun _ _ => True) := by
  refine T.F_Number_less.ok sc_Number_less (fun vs H Q E h => ?_) (fun cdv A outer s H vs Q E hr h => ?_)
  · obtain ⟨p, q, x, y, rfl, _⟩ := h
    rfl
  · obtain ⟨p, q, x, y, rfl, ⟨dx, hp⟩, ⟨dy, hq⟩, bx, by', _, k⟩ := h
    have cN := T.c_Number
    have nT := T.n_Number_top
    have nB := T.n_Number_bottom
    refine ⟨_, (pss_one (ps_ret (pe_make T.mk_Number (ok_Number_init T) (hr.mono (by decide)) (by rfl) T.m_Number T.b_Number_init2 .nil pass0 (pa_cons (pe_op op_sub (pe_op op_mulW (pe_fld (pv 0) rfl) (pe_fld (pv 1) rfl)) (pe_op op_mulW (pe_fld (pv 1) rfl) (pe_fld (pv 0) rfl))) (pa_cons (pe_op op_mulW (pe_fld (pv 0) rfl) (pe_fld (pv 1) rfl)) pa_nil))))), ?_⟩
    walk_at "rdf"
    refine r_I (cm bx.1 (bd_den by')) ?_
    walk_at "rdf"
    refine r_I (cm by'.1 (bd_den bx)) ?_
    walk_at "rdf"
    refine r_I (cm (bd_den bx) (bd_den by')) ?_
    walk_at "rdf"
    refine mk_num (dd_ne x y) (dd_lt bx by') fun r H' s n h => ?_
    rw [sub_eq] at h
    exact k r H' s n h
theorem ok_Number_times (T : Txt w K mg) : FnOk P w K mg base CX0 3 T.f_Number_times T.fd_Number_times ["self", "other"] (spBin T.C_Number (fun x y => x * y) fun _ _ => True) := by
  refine T.F_Number_times.ok sc_Number_times (fun vs H Q E h => ?_) (fun cdv A outer s H vs Q E hr h => ?_)
  · obtain ⟨p, q, x, y, rfl, _⟩ := h
    rfl
  · obtain ⟨p, q, x, y, rfl, ⟨dx, hp⟩, ⟨dy, hq⟩, bx, by', _, k⟩ := h
    have cN := T.c_Number
    have nT := T.n_Number_top
    have nB := T.n_Number_bottom
    refine ⟨_, (pss_one (ps_ret (pe_make T.mk_Number (ok_Number_init T) (hr.mono (by decide)) (by rfl) T.m_Number T.b_Number_init2 .nil pass0 (pa_cons (pe_op op_mulW (pe_fld (pv 0) rfl) (pe_fld (pv 1) rfl)) (pa_cons (pe_op op_mulW (pe_fld (pv 0) rfl) (pe_fld (pv 1) rfl)) pa_nil))))), ?_⟩
    walk_at "rdf"
    refine r_I (cm bx.1 by'.1) ?_
    walk_at "rdf"
    refine r_I (cm (bd_den bx) (bd_den by')) ?_
    walk_at "rdf"
    refine mk_num (dd_ne x y) (dd_lt bx by') fun r H' s n h => ?_
    rw [mul_eq] at h
    exact k r H' s n h
theorem ok_Number_over (T : Txt w K mg) : FnOk P w K mg base CX0 3 T.f_Number_over T.fd_Number_over ["self", "other"] (spBin T.C_Number (fun x y => x / y) fun _ y => y ≠ 0) := by
  refine T.F_Number_over.ok sc_Number_over (fun vs H Q E h => ?_) (fun cdv A outer s H vs Q E hr h => ?_)
  · obtain ⟨p, q, x, y, rfl, _⟩ := h
    rfl
  · obtain ⟨p, q, x, y, rfl, ⟨dx, hp⟩, ⟨dy, hq⟩, bx, by', y0, k⟩ := h
    have cN := T.c_Number
    have nT := T.n_Number_top
    have nB := T.n_Number_bottom
    refine ⟨_, (pss_cons (ps_if (pt_cmpR op_eq (pe_fld (pv 1) rfl) pe_int (nomark _))
  (pss_one ps_never)
  pss_nil)
 (pss_one (ps_ret (pe_make T.mk_Number (ok_Number_init T) (hr.mono (by decide)) (by rfl) T.m_Number T.b_Number_init2 .nil pass0 (pa_cons (pe_op op_mulW (pe_fld (pv 0) rfl) (pe_fld (pv 1) rfl)) (pa_cons (pe_op op_mulW (pe_fld (pv 0) rfl) (pe_fld (pv 1) rfl)) pa_nil)))))), ?_⟩
    walk_at "rdf"
    refine r_iteF (decide_eq_false (num_ne y0)) ?_
    walk_at "rdf"
    refine r_I (cm bx.1 (bd_den by')) ?_
    walk_at "rdf"
    refine r_I (cm (bd_den bx) by'.1) ?_
    walk_at "rdf"
    refine mk_num (Int.mul_ne_zero (den_ne x) (num_ne y0)) (natAbs_mul_lt (bd_den bx) by'.1 (by decide)) fun r H' s n h => ?_
    rw [div_eq] at h
    exact k r H' s n h
def spFloor (C : Addr) : Sp := fun vs H Q _ => ∃ (p : Addr) (x : Rat), vs = [.ref p] ∧ NumAt C H p x ∧ Bd 8000 x ∧ Q (.int x.floor) H
theorem ok_Number_floor (T : Txt w K mg) : FnOk P w K mg base CX0 1 T.f_Number_floor T.fd_Number_floor ["self"] (spFloor T.C_Number) := by
  refine T.F_Number_floor.ok sc_Number_floor (fun vs H Q E h => ?_) (fun cdv A outer s H vs Q E hr h => ?_)
  · obtain ⟨p, x, rfl, _⟩ := h
    rfl
  · obtain ⟨p, x, rfl, ⟨dx, hp⟩, bx, k⟩ := h
    have cN := T.c_Number
    have nT := T.n_Number_top
    have nB := T.n_Number_bottom
    refine ⟨_, (pss_one (ps_ret (pe_op op_fdivW (pe_fld (pv 0) rfl) (pe_fld (pv 0) rfl)))), ?_⟩
    walk_at "rdf"
    refine r_I (wide_div (by have := x.den_pos; omega) (bd_den bx) (by decide) (by decide)) ?_
    show Q (.int (x.num / (x.den : Int))) H
    rw [← Rat.floor_def]
    exact k
end
end My

namespace My
open PySem L2
section
variable {P : Program} {w : World} {K : PySem.W.Frag} {mg : Str → Option Value} {base : Heap}
theorem no_over (q : Rat) : (nf q).lookup ("over" : Str) = none := nf_no _ (by decide +kernel) (by decide +kernel)
theorem no_less (q : Rat) : (nf q).lookup ("less" : Str) = none := nf_no _ (by decide +kernel) (by decide +kernel)
theorem no_times (q : Rat) : (nf q).lookup ("times" : Str) = none := nf_no _ (by decide +kernel) (by decide +kernel)
theorem no_floor (q : Rat) : (nf q).lookup ("floor" : Str) = none := nf_no _ (by decide +kernel) (by decide +kernel)
def spPlace (C : Addr) : Sp := fun vs H Q _ => ∃ (p s : Addr) (x y : Rat), vs = [.ref p, .ref s] ∧ NumAt C H p x ∧ NumAt C H s y ∧ Bd 900 x ∧ Bd 900 y ∧ y ≠ 0 ∧
  ∀ (t pp : Addr) (H' : Hp), Same H H' → H' t = some (.tup [.int (x / y).floor, .int (highQ (x / y)), .ref pp]) → NumAt C H' pp (partQ (x / y)) → Q (.ref t) H'
theorem ok_place_of (T : Txt w K mg) : FnOk P w K mg base CX0 4 T.f_place_of T.fd_place_of ["number", "step"] (spPlace T.C_Number) := by
  refine T.F_place_of.ok sc_place_of (fun vs H Q E h => ?_) (fun cdv A outer s H vs Q E hr h => ?_)
  · obtain ⟨p, q, x, y, rfl, _⟩ := h
    rfl
  · obtain ⟨p, q, x, y, rfl, ⟨dx, hp⟩, ⟨dy, hq⟩, bx, by', y0, k⟩ := h
    have cN := T.c_Number
    have nT := T.n_Number_top
    have nB := T.n_Number_bottom
    have bn : Bd 1800 (x / y) := Bd.div bx by' y0
    have bf : Bd 1800 ((x / y).floor : Rat) := Bd.int (floor_bd bn) (by decide)
    refine ⟨_, (pss_cons (ps_set (i := 2) sc_place_of.nd rfl (Or.inl rfl) (pe_meth (pv 0) T.c_Number T.me_Number_over (ok_Number_over T) (hr.mono (by decide)) T.b_Number_over .nil pass0 (pa_cons (pv 1) pa_nil)))
 (pss_cons (ps_set (i := 3) sc_place_of.nd rfl (Or.inl rfl) (pe_meth0 (pv 2) T.c_Number T.me_Number_floor (ok_Number_floor T) (hr.mono (by decide)) T.b_Number_floor .nil pass0))
 (pss_cons (ps_set (i := 4) sc_place_of.nd rfl (Or.inl rfl) (pe_meth (pv 2) T.c_Number T.me_Number_less (ok_Number_less T) (hr.mono (by decide)) T.b_Number_less .nil pass0 (pa_cons (pe_make T.mk_Number (ok_Number_init T) (hr.mono (by decide)) (by rfl) T.m_Number T.b_Number_init1 T.d_Number_init1 pass0 (pa_cons (pv 3) pa_nil)) pa_nil)))
 (pss_cons (ps_set (i := 5) sc_place_of.nd rfl (Or.inl rfl) (pe_ifExp (pt_cmpR op_eq (pe_fld (pv 4) rfl) pe_int (nomark _)) (pv 3) (pe_op op_add (pv 3) pe_int)))
 (pss_one (ps_ret (pe_tup (pa_cons (pv 3) (pa_cons (pv 5) (pa_cons (pv 4) pa_nil)))))))))), ?_⟩
    walk_at "rdf"
    refine r_meth1 hp (no_over _) ?_
    walk_at "rdf"
    refine ⟨p, q, x, y, rfl, ⟨_, hp⟩, ⟨_, hq⟩, bx.mono (by decide), by'.mono (by decide), y0, fun r H1 s1 n1 h1 => ?_⟩
    obtain ⟨dr, hr1⟩ := h1
    walk_at "rdf"
    refine r_meth1 hr1 (no_floor _) ?_
    walk_at "rdf"
    refine ⟨r, x / y, rfl, ⟨_, hr1⟩, bn.mono (by decide), ?_⟩
    walk_at "rdf"
    refine r_meth1 hr1 (no_less _) ?_
    walk_at "rdf"
    refine mk_num1 fun u H2 s2 n2 h2 => ?_
    walk_at "rdf"
    refine ⟨r, u, x / y, ((x / y).floor : Rat), rfl, ⟨_, s2 _ _ hr1⟩, h2, bn.mono (by decide), bf.mono (by decide), trivial, fun pp H3 s3 n3 h3 => ?_⟩
    obtain ⟨dp, hp3⟩ := h3
    have s03 : Same H H3 := (s1.trans s2).trans s3
    walk_at "rdf"
    refine r_ite (fun e => ?_) (fun e => ?_)
    · have e' : highQ (x / y) = (x / y).floor := by
        unfold highQ
        exact if_pos (of_decide_eq_true e)
      walk_at "rdf"
      refine r_new (by show 3 ≤ 1000; decide) fun t ht => ?_
      exact k t pp _ (s03.trans (Same.new ht)) (by rw [upd_same, e']) ⟨dp, by rw [upd_ne (ne_of_none hp3 ht)]; exact hp3⟩
    · have e' : highQ (x / y) = (x / y).floor + 1 := by
        unfold highQ
        exact if_neg (of_decide_eq_false e)
      walk_at "rdf"
      refine r_new (by show 3 ≤ 1000; decide) fun t ht => ?_
      exact k t pp _ (s03.trans (Same.new ht)) (by rw [upd_same, e']) ⟨dp, by rw [upd_ne (ne_of_none hp3 ht)]; exact hp3⟩
/-! ### the ways -/
def wname : Way → Str
  | .up => "up" | .down => "down" | .high => "high" | .low => "low" | .hup => "half up" | .hdown => "half down" | .heven => "half even" | .hodd => "half odd"
def spRule (C : Addr) (r : Way) : Sp := fun vs H Q _ => ∃ (l : Int) (pp : Addr) (q : Rat), vs = [.int l, .ref pp] ∧ NumAt C H pp q ∧ Q (.bl (ruleB r l q)) H
def spNearer (C : Addr) : Sp := fun vs H Q _ => ∃ (pp : Addr) (q : Rat) (a : Bool), vs = [.ref pp, .bl a] ∧ NumAt C H pp q ∧ Q (.bl (nearerB q a)) H
theorem ok_nearer (T : Txt w K mg) : FnOk P w K mg base CX0 1 T.f_nearer T.fd_nearer ["part", "at_half"] (spNearer T.C_Number) := by
  refine T.F_nearer.ok sc_nearer (fun vs H Q E h => ?_) (fun cdv A outer s H vs Q E hr h => ?_)
  · obtain ⟨p, q, a, rfl, _⟩ := h
    rfl
  · obtain ⟨p, q, a, rfl, ⟨dx, hp⟩, k⟩ := h
    have cN := T.c_Number
    have nT := T.n_Number_top
    have nB := T.n_Number_bottom
    refine ⟨_, (pss_cons (ps_set (i := 2) sc_nearer.nd rfl (Or.inl rfl) (pe_op op_mul pe_int (pe_fld (pv 0) rfl)))
 (pss_cons (ps_if (pt_cmpR op_eq (pv 2) (pe_fld (pv 0) rfl) (nomark _))
  (pss_one (ps_ret (pv 1)))
  pss_nil)
 (pss_one (ps_ret (pe_cmpR op_gt (pv 2) (pe_fld (pv 0) rfl) (nomark _)))))), ?_⟩
    walk_at "rdf"
    unfold nearerB at k
    refine r_ite (fun e => ?_) (fun e => ?_)
    · walk_at "rdf"
      rw [if_pos (of_decide_eq_true e)] at k
      exact k
    · walk_at "rdf"
      rw [if_neg (of_decide_eq_false e)] at k
      exact k
theorem ok_by_up (T : Txt w K mg) : FnOk P w K mg base CX0 1 T.f_by_up T.fd_by_up ["low", "part"] (spRule T.C_Number .up) := by
  refine T.F_by_up.ok sc_by_up (fun vs H Q E h => ?_) (fun cdv A outer s H vs Q E hr h => ?_)
  · obtain ⟨l, pp, q, rfl, _⟩ := h
    rfl
  · obtain ⟨l, pp, q, rfl, hp, k⟩ := h
    refine ⟨_, (pss_one (ps_ret (pe_cmpR op_ge (pv 0) pe_int (nomark _)))), ?_⟩
    walk_at "rdf"
    exact k
theorem ok_by_down (T : Txt w K mg) : FnOk P w K mg base CX0 1 T.f_by_down T.fd_by_down ["low", "part"] (spRule T.C_Number .down) := by
  refine T.F_by_down.ok sc_by_down (fun vs H Q E h => ?_) (fun cdv A outer s H vs Q E hr h => ?_)
  · obtain ⟨l, pp, q, rfl, _⟩ := h
    rfl
  · obtain ⟨l, pp, q, rfl, hp, k⟩ := h
    refine ⟨_, (pss_one (ps_ret (pe_cmpR op_lt (pv 0) pe_int (nomark _)))), ?_⟩
    walk_at "rdf"
    exact k
theorem ok_by_high (T : Txt w K mg) : FnOk P w K mg base CX0 1 T.f_by_high T.fd_by_high ["low", "part"] (spRule T.C_Number .high) := by
  refine T.F_by_high.ok sc_by_high (fun vs H Q E h => ?_) (fun cdv A outer s H vs Q E hr h => ?_)
  · obtain ⟨l, pp, q, rfl, _⟩ := h
    rfl
  · obtain ⟨l, pp, q, rfl, hp, k⟩ := h
    refine ⟨_, (pss_one (ps_ret pe_bl)), ?_⟩
    walk_at "rdf"
    exact k
theorem ok_by_low (T : Txt w K mg) : FnOk P w K mg base CX0 1 T.f_by_low T.fd_by_low ["low", "part"] (spRule T.C_Number .low) := by
  refine T.F_by_low.ok sc_by_low (fun vs H Q E h => ?_) (fun cdv A outer s H vs Q E hr h => ?_)
  · obtain ⟨l, pp, q, rfl, _⟩ := h
    rfl
  · obtain ⟨l, pp, q, rfl, hp, k⟩ := h
    refine ⟨_, (pss_one (ps_ret pe_bl)), ?_⟩
    walk_at "rdf"
    exact k
theorem ok_by_half_up (T : Txt w K mg) : FnOk P w K mg base CX0 2 T.f_by_half_up T.fd_by_half_up ["low", "part"] (spRule T.C_Number .hup) := by
  refine T.F_by_half_up.ok sc_by_half_up (fun vs H Q E h => ?_) (fun cdv A outer s H vs Q E hr h => ?_)
  · obtain ⟨l, pp, q, rfl, _⟩ := h
    rfl
  · obtain ⟨l, pp, q, rfl, hp, k⟩ := h
    refine ⟨_, (pss_one (ps_ret (pe_call (ok_nearer T) (hr.mono (by decide)) (by rfl) T.m_nearer T.F_nearer.kp T.b_nearer .nil pass0 (pa_cons (pv 1) (pa_cons (pe_cmpR op_ge (pv 0) pe_int (nomark _)) pa_nil))))), ?_⟩
    walk_at "rdf"
    exact ⟨pp, q, _, rfl, hp, k⟩
theorem ok_by_half_down (T : Txt w K mg) : FnOk P w K mg base CX0 2 T.f_by_half_down T.fd_by_half_down ["low", "part"] (spRule T.C_Number .hdown) := by
  refine T.F_by_half_down.ok sc_by_half_down (fun vs H Q E h => ?_) (fun cdv A outer s H vs Q E hr h => ?_)
  · obtain ⟨l, pp, q, rfl, _⟩ := h
    rfl
  · obtain ⟨l, pp, q, rfl, hp, k⟩ := h
    refine ⟨_, (pss_one (ps_ret (pe_call (ok_nearer T) (hr.mono (by decide)) (by rfl) T.m_nearer T.F_nearer.kp T.b_nearer .nil pass0 (pa_cons (pv 1) (pa_cons (pe_cmpR op_lt (pv 0) pe_int (nomark _)) pa_nil))))), ?_⟩
    walk_at "rdf"
    exact ⟨pp, q, _, rfl, hp, k⟩
theorem ok_by_half_even (T : Txt w K mg) : FnOk P w K mg base CX0 2 T.f_by_half_even T.fd_by_half_even ["low", "part"] (spRule T.C_Number .heven) := by
  refine T.F_by_half_even.ok sc_by_half_even (fun vs H Q E h => ?_) (fun cdv A outer s H vs Q E hr h => ?_)
  · obtain ⟨l, pp, q, rfl, _⟩ := h
    rfl
  · obtain ⟨l, pp, q, rfl, hp, k⟩ := h
    refine ⟨_, (pss_one (ps_ret (pe_call (ok_nearer T) (hr.mono (by decide)) (by rfl) T.m_nearer T.F_nearer.kp T.b_nearer .nil pass0 (pa_cons (pv 1) (pa_cons (pe_cmpR op_eq (pe_op op_mod (pv 0) pe_int) pe_int (nomark _)) pa_nil))))), ?_⟩
    walk_at "rdf"
    exact ⟨pp, q, _, rfl, hp, k⟩
theorem ok_by_half_odd (T : Txt w K mg) : FnOk P w K mg base CX0 2 T.f_by_half_odd T.fd_by_half_odd ["low", "part"] (spRule T.C_Number .hodd) := by
  refine T.F_by_half_odd.ok sc_by_half_odd (fun vs H Q E h => ?_) (fun cdv A outer s H vs Q E hr h => ?_)
  · obtain ⟨l, pp, q, rfl, _⟩ := h
    rfl
  · obtain ⟨l, pp, q, rfl, hp, k⟩ := h
    refine ⟨_, (pss_one (ps_ret (pe_call (ok_nearer T) (hr.mono (by decide)) (by rfl) T.m_nearer T.F_nearer.kp T.b_nearer .nil pass0 (pa_cons (pv 1) (pa_cons (pe_cmpR op_eq (pe_op op_mod (pv 0) pe_int) pe_int (nomark _)) pa_nil))))), ?_⟩
    walk_at "rdf"
    exact ⟨pp, q, _, rfl, hp, k⟩
theorem rule_held (T : Txt w K mg) (r : Way) : ∃ (f : Addr) (fd : FuncData), FnOk P w K mg base CX0 2 f fd ["low", "part"] (spRule T.C_Number r) ∧ PySem.W.keepIn K (.ref f) = true ∧ Binds K fd ["low", "part"] [] ∧ KDct K w T.D_RULES (wname r) (.ref f) := by
  cases r with
  | up => exact ⟨_, _, (ok_by_up T).mono (by decide), T.F_by_up.kp, T.b_by_up, _, _, _, T.l_RULES, T.k_RULES, T.rule_by_up, rfl⟩
  | down => exact ⟨_, _, (ok_by_down T).mono (by decide), T.F_by_down.kp, T.b_by_down, _, _, _, T.l_RULES, T.k_RULES, T.rule_by_down, rfl⟩
  | high => exact ⟨_, _, (ok_by_high T).mono (by decide), T.F_by_high.kp, T.b_by_high, _, _, _, T.l_RULES, T.k_RULES, T.rule_by_high, rfl⟩
  | low => exact ⟨_, _, (ok_by_low T).mono (by decide), T.F_by_low.kp, T.b_by_low, _, _, _, T.l_RULES, T.k_RULES, T.rule_by_low, rfl⟩
  | hup => exact ⟨_, _, ok_by_half_up T, T.F_by_half_up.kp, T.b_by_half_up, _, _, _, T.l_RULES, T.k_RULES, T.rule_by_half_up, rfl⟩
  | hdown => exact ⟨_, _, ok_by_half_down T, T.F_by_half_down.kp, T.b_by_half_down, _, _, _, T.l_RULES, T.k_RULES, T.rule_by_half_down, rfl⟩
  | heven => exact ⟨_, _, ok_by_half_even T, T.F_by_half_even.kp, T.b_by_half_even, _, _, _, T.l_RULES, T.k_RULES, T.rule_by_half_even, rfl⟩
  | hodd => exact ⟨_, _, ok_by_half_odd T, T.F_by_half_odd.kp, T.b_by_half_odd, _, _, _, T.l_RULES, T.k_RULES, T.rule_by_half_odd, rfl⟩
def spPaper (C : Addr) : Sp := fun vs H Q _ => ∃ (p s : Addr) (x y : Rat) (r : Way), vs = [.ref p, .ref s, .str (wname r)] ∧ NumAt C H p x ∧ NumAt C H s y ∧ Bd 900 x ∧ Bd 900 y ∧ y ≠ 0 ∧
  ∀ (t : Addr) (H' : Hp), Same H H' → H' t = some (.tup [.int (x / y).floor, .int (highQ (x / y)), .int (takenQ r (x / y))]) → Q (.ref t) H'
theorem is_str {w : World} {K : PySem.W.Frag} {H : Hp} {z : Str} {Q : VK} (q : Q (.bl true) H) : rIsi K [.str z, .ty "str"] H Q :=
  ⟨.str z, .ty "str", .type "str", .type "str", true, rfl, .ty "str", .base (.str z), kit_ty (by decide +kernel), q⟩
theorem highQ_eq {n : Rat} : n.floor = highQ n ↔ (partQ n).num = 0 := by
  unfold highQ
  split
  · exact ⟨fun _ => by assumption, fun _ => rfl⟩
  · exact ⟨fun e => by omega, fun e => absurd e (by assumption)⟩
theorem ok_round_paper (T : Txt w K mg) : FnOk P w K mg base CX0 5 T.f_round_paper T.fd_round_paper ["number", "step", "way"] (spPaper T.C_Number) := by
  refine T.F_round_paper.ok sc_round_paper (fun vs H Q E h => ?_) (fun cdv A outer s H vs Q E hr h => ?_)
  · obtain ⟨p, q, x, y, r, rfl, _⟩ := h
    rfl
  · obtain ⟨p, q, x, y, r, rfl, hp, hq, bx, by', y0, k⟩ := h
    obtain ⟨f, fd, Fr, kr, br, kd⟩ := rule_held (P := P) (base := base) T r
    refine ⟨_, (pss_cons (ps_asg (pe_call (ok_place_of T) (hr.mono (by decide)) (by rfl) T.m_place_of T.F_place_of.kp T.b_place_of .nil pass0 (pa_cons (pv 0) (pa_cons (pv 1) pa_nil))) (pg_tup rfl (pgs_cons (pg_name (i := 3) sc_round_paper.nd rfl (Or.inl rfl)) (pgs_cons (pg_name (i := 4) sc_round_paper.nd rfl (Or.inl rfl)) (pgs_cons (pg_name (i := 5) sc_round_paper.nd rfl (Or.inl rfl)) pgs_nil)))))
 (pss_cons (ps_if (pt_cmpR op_eq (pv 3) (pv 4) (nomark _))
  (pss_one (ps_ret (pe_tup (pa_cons (pv 3) (pa_cons (pv 4) (pa_cons (pv 3) pa_nil))))))
  pss_nil)
 (pss_cons (ps_set (i := 6) sc_round_paper.nd rfl (Or.inl rfl) (pv 2))
 (pss_cons (ps_if (pt_val (pe_callB call_isi (by rfl) T.n_isinstance (by decide +kernel) (pa_cons (pv 2) (pa_cons (pe_bltn (v := .ty "str") (by rfl) T.n_str (by decide +kernel) rfl) pa_nil))))
  (pss_one (ps_set (i := 6) sc_round_paper.nd rfl (Or.inl rfl) (pe_ix ix_kdict (pe_glob (v := .ref T.D_RULES) (by rfl) T.m_RULES rfl) (pv 2) (fun _ _ => rfl))))
  pss_nil)
 (pss_cons (ps_if (pt_cmpR op_isBl (pe_callL (i := 6) Fr (hr.mono (by decide)) rfl (Or.inl rfl) kr br .nil pass0 (pa_cons (pv 3) (pa_cons (pv 5) pa_nil))) pe_bl (nomark _))
  (pss_one (ps_ret (pe_tup (pa_cons (pv 3) (pa_cons (pv 4) (pa_cons (pv 4) pa_nil))))))
  pss_nil)
 (pss_one (ps_ret (pe_tup (pa_cons (pv 3) (pa_cons (pv 4) (pa_cons (pv 3) pa_nil))))))))))), ?_⟩
    walk_at "rd"
    refine ⟨p, q, x, y, rfl, hp, hq, bx, by', y0, fun t pp H1 s1 h1 hpp => ?_⟩
    refine ⟨t, _, rfl, SqT.of h1, rfl, _, _, rfl, ?_⟩
    walk_at "rd"
    refine ⟨_, _, rfl, ?_⟩
    walk_at "rd"
    refine ⟨_, _, rfl, ?_⟩
    walk_at "rd"
    refine ⟨rfl, ?_⟩
    walk_at "rd"
    refine r_ite (fun e => ?_) (fun e => ?_)
    · walk_at "rd"
      refine r_new (by show 3 ≤ 1000; decide) fun t2 ht => ?_
      have e1 := highQ_eq.mp (of_decide_eq_true e)
      have e2 : takenQ r (x / y) = (x / y).floor := by unfold takenQ; rw [if_pos e1]
      exact k t2 _ (s1.trans (Same.new ht)) (by rw [upd_same, e2])
    · have e1 : ¬ (partQ (x / y)).num = 0 := fun z => of_decide_eq_false e (highQ_eq.mpr z)
      have e3 : highQ (x / y) = (x / y).floor + 1 := by unfold highQ; rw [if_neg e1]
      walk_at "rd"
      refine is_str (w := w) ?_
      walk_at "rd"
      refine r_iteT rfl ?_
      walk_at "rd"
      refine ⟨_, _, _, rfl, rfl, kd, ?_⟩
      walk_at "rd"
      refine ⟨rfl, ?_⟩
      walk_at "rd"
      refine ⟨_, pp, partQ (x / y), rfl, hpp, ?_⟩
      walk_at "rd"
      refine ⟨_, _, rfl, rfl, ?_⟩
      walk_at "rd"
      refine r_ite (fun z => ?_) (fun z => ?_)
      · have z' : ruleB r (x / y).floor (partQ (x / y)) = true := of_decide_eq_true z
        walk_at "rd"
        refine r_new (by show 3 ≤ 1000; decide) fun t2 ht => ?_
        have e2 : takenQ r (x / y) = highQ (x / y) := by unfold takenQ; rw [if_neg e1, if_pos z', e3]
        exact k t2 _ (s1.trans (Same.new ht)) (by rw [upd_same, e2])
      · have z' : ¬ ruleB r (x / y).floor (partQ (x / y)) = true := of_decide_eq_false z
        walk_at "rd"
        refine r_new (by show 3 ≤ 1000; decide) fun t2 ht => ?_
        have e2 : takenQ r (x / y) = (x / y).floor := by unfold takenQ; rw [if_neg e1, if_neg z']
        exact k t2 _ (s1.trans (Same.new ht)) (by rw [upd_same, e2])
def spRounded (C : Addr) : Sp := fun vs H Q _ => ∃ (p s : Addr) (x y : Rat) (r : Way), vs = [.ref p, .ref s, .str (wname r)] ∧ NumAt C H p x ∧ NumAt C H s y ∧ Bd 900 x ∧ Bd 900 y ∧ y ≠ 0 ∧
  ∀ (t : Addr) (H' : Hp), Same H H' → NumAt C H' t (y * (takenQ r (x / y) : Rat)) → Q (.ref t) H'
theorem taken_bd {n : Nat} {r : Way} {x : Rat} (h : Bd n x) : (takenQ r x).natAbs < 2 ^ (n + 1) := by
  have b := floor_bd h
  rw [Nat.pow_succ]
  unfold takenQ
  split
  · omega
  · split <;> omega
theorem ok_rounded (T : Txt w K mg) : FnOk P w K mg base CX0 6 T.f_rounded T.fd_rounded ["number", "step", "way"] (spRounded T.C_Number) := by
  refine T.F_rounded.ok sc_rounded (fun vs H Q E h => ?_) (fun cdv A outer s H vs Q E hr h => ?_)
  · obtain ⟨p, q, x, y, r, rfl, _⟩ := h
    rfl
  · obtain ⟨p, q, x, y, r, rfl, hp, hq, bx, by', y0, k⟩ := h
    refine ⟨_, (pss_cons (ps_set (i := 3) sc_rounded.nd rfl (Or.inl rfl) (pe_ix ix_tup (pe_callN (ok_round_paper T) (hr.mono (by decide)) (by rfl) T.m_round_paper T.F_round_paper.kp T.kb_round_paper pass0 (pa_cons (pv 0) (pa_cons (pv 1) pa_nil)) (pk_cons (pv 2) pk_nil)) pe_int (fun _ _ => rfl)))
 (pss_one (ps_ret (pe_meth (pv 1) T.c_Number T.me_Number_times (ok_Number_times T) (hr.mono (by decide)) T.b_Number_times .nil pass0 (pa_cons (pe_make T.mk_Number (ok_Number_init T) (hr.mono (by decide)) (by rfl) T.m_Number T.b_Number_init1 T.d_Number_init1 pass0 (pa_cons (pv 3) pa_nil)) pa_nil))))), ?_⟩
    walk_at "rd"
    refine ⟨rfl, rfl, ?_⟩
    refine ⟨p, q, x, y, r, rfl, hp, hq, bx, by', y0, fun t H1 s1 h1 => ?_⟩
    walk_at "rd"
    refine r_ixT h1 (atI_nat (j := 2) rfl) ?_
    walk_at "rd"
    obtain ⟨dq, hq1⟩ := hq.same s1
    refine r_meth1 hq1 (no_times _) ?_
    walk_at "rd"
    refine mk_num1 fun u H2 s2 n2 h2 => ?_
    walk_at "rd"
    refine ⟨q, u, y, _, rfl, ⟨_, s2 _ _ hq1⟩, h2, by'.mono (by decide), (Bd.int (taken_bd (Bd.div bx by' y0)) (by decide)).mono (by decide), trivial, fun t3 H3 s3 n3 h3 => ?_⟩
    exact k t3 H3 ((s1.trans s2).trans s3) h3
end
end My

namespace My
open PySem L2
section
variable {σ : L2.St} {H : Hp} {Q : VK} {v x y : V} {te ta to ti : TE} {tr : TA} {K : PySem.W.Frag} {nx : L2.St → Hp → Prop} {rt : VK} {bk ct : L2.St → Hp → Prop}
theorem r_par {i j : Nat} (q : tr σ H fun vs H1 => ∃ v w, vs = [v, w] ∧ nx ((σ.set i (some v)).set j (some w)) H1) : tPar i j tr ⟨nx, rt, bk, ct⟩ σ H := q
theorem r_two {P : V → V → Prop} (q : P x y) : ∃ v w, [x, y] = [v, w] ∧ P v w := ⟨x, y, rfl, q⟩
theorem r_m1 {r : V → List V → Hp → VK → Prop} (q : to σ H fun x H1 => (∃ a, x = .str a) ∧ te σ H1 fun y H2 => r x [y] H2 Q) : tM1 r to te σ H Q := q
theorem r_isStr {a : Str} {P : Prop} (q : P) : (∃ b, V.str a = .str b) ∧ P := ⟨⟨a, rfl⟩, q⟩
theorem r_inT {t : Addr} {xs : List V} {b : Bool} (h : H t = some (.tup xs)) (f : flatV x = true) (fs : xs.all flatV = true) (e : inV x xs = b) (q : Q (.bl b) H) : rIn K false x (.ref t) H Q := ⟨t, xs, rfl, .inr (SqT.of h), f, fs, by
  subst e
  exact q⟩
theorem r_notInT {t : Addr} {xs : List V} {b : Bool} (h : H t = some (.tup xs)) (f : flatV x = true) (fs : xs.all flatV = true) (e : inV x xs = b) (q : Q (.bl (!b)) H) : rIn K true x (.ref t) H Q := ⟨t, xs, rfl, .inr (SqT.of h), f, fs, by
  subst e
  exact q⟩
theorem r_isN {P : V → Hp → Prop} {b : Bool} (e : decide (x = V.non) = b) (q : P (.bl b) H) : V.non = V.non ∧ P (.bl (decide (x = V.non))) H := ⟨rfl, by rw [e]; exact q⟩
theorem r_lcT {tl : TE} {g : TG} {tt : TT} {vs : List Nat} (q : tl σ H fun x H1 => ∃ a, x = .ref a ∧ (∃ xs, SqT K H1 a xs) ∧ ∀ D, H1 D = none → ∃ W : Nat → Nat → Hp → Prop, (∃ m, W 0 m (upd H1 D (.lst []))) ∧ ∀ i m H, W i m H →
    ((Itt K a).stop i H ∧ Q (.ref D) H) ∨ ((Itt K a).go i H ∧ ∃ Nx : Hp → Prop, (∀ H', Nx H' → ∃ m', m' < m ∧ W (i + 1) m' H') ∧ ∀ x H', (Itt K a).yld i H x H' → g x (wipe σ vs) H' fun σ2 H2 => wipe σ2 vs = wipe σ vs ∧ tt σ2 H2 fun b H3 =>
      if b = true then te σ2 H3 fun y H4 => ∃ acc, H4 D = some (.lst acc) ∧ acc.length < sizeLine ∧ Nx (upd H4 D (.lst (acc ++ [y]))) else Nx H3)) : tLc (iTup K tl) g tt te vs σ H Q := q
theorem r_rng2 {g : TG} {tb : TS} {D : Ends} (q : tr σ H fun vs H1 => ∃ i j : Int, vs = [.int i, .int j] ∧ (-(2 ^ 62) ≤ i ∧ i < 2 ^ 62 ∧ -(2 ^ 62) ≤ j ∧ j < 2 ^ 62) ∧ ∃ W : Nat → Nat → L2.St → Hp → Prop, (∃ m, W 0 m σ H1) ∧ ∀ k m σ H, W k m σ H →
    ((Itr i (j - i).toNat).stop k H ∧ D.nx σ H) ∨ ((Itr i (j - i).toNat).go k H ∧ ∃ N : L2.St → Hp → Prop, (∀ σ' H', N σ' H' → ∃ m', m' < m ∧ W (k + 1) m' σ' H') ∧ ∀ x H', (Itr i (j - i).toNat).yld k H x H' → g x σ H' fun σ2 H2 => tb { D with nx := N, ct := N, bk := D.nx } σ2 H2)) : tFor (iRng2 tr) g tb D σ H := q
theorem r_gTup {a : Addr} {xs : List V} {n : Nat} {t : TGs} {QS : L2.St → Hp → Prop} (h : H a = some (.tup xs)) (l : xs.length = n) (q : t xs σ H QS) : gTup K n t (.ref a) σ H QS := ⟨a, xs, rfl, SqT.of h, l, q⟩
theorem r_gCons {t : TG} {u : TGs} {xs : List V} {QS : L2.St → Hp → Prop} (q : t x σ H fun σ' H' => u xs σ' H' QS) : gCons t u (x :: xs) σ H QS := ⟨x, xs, rfl, q⟩
theorem r_gNil {QS : L2.St → Hp → Prop} (q : QS σ H) : gNil [] σ H QS := ⟨rfl, q⟩
theorem r_aug {i : Nat} {ti : TIp} (q : ∃ x, σ[i]? = some (some x) ∧ te σ H fun y H1 => ti x y H1 fun z H2 => nx (σ.set i (some z)) H2) : tAug i te ti ⟨nx, rt, bk, ct⟩ σ H := q
theorem r_ip {f : Int → Int → Int} {i j : Int} (q : Q (.int (f i j)) H) : ipI f (.int i) (.int j) H Q := ⟨i, j, rfl, rfl, q⟩
theorem r_bits (q : to σ H fun x H1 => ∃ i, x = .int i ∧ Q (.int (Builtin.Int.intBits i : Nat)) H1) : tBits to σ H Q := q
theorem r_dget2 {td ty tx : TE} (q : td σ H fun x H1 => ∃ a, x = .ref a ∧ IsD H1 a ∧ ty σ H1 fun y H2 => tx σ H2 fun z H3 => ∃ o, DGet H3 a y o ∧ Q (o.getD z) H3) : tDGet2 td ty tx σ H Q := q
theorem r_rng1 {g : TG} {tb : TS} {D : Ends} (q : tr σ H fun vs H1 => ∃ j : Int, vs = [.int j] ∧ -(2 ^ 62) ≤ j ∧ j < 2 ^ 62 ∧ ∃ W : Nat → Nat → L2.St → Hp → Prop, (∃ m, W 0 m σ H1) ∧ ∀ k m σ H, W k m σ H →
    ((Itr 0 j.toNat).stop k H ∧ D.nx σ H) ∨ ((Itr 0 j.toNat).go k H ∧ ∃ N : L2.St → Hp → Prop, (∀ σ' H', N σ' H' → ∃ m', m' < m ∧ W (k + 1) m' σ' H') ∧ ∀ x H', (Itr 0 j.toNat).yld k H x H' → g x σ H' fun σ2 H2 => tb { D with nx := N, ct := N, bk := D.nx } σ2 H2)) : tFor (iRng1 tr) g tb D σ H := q
end
end My

local macro_rules | `(tactic| walk_at "rd2") => `(tactic| first
  | with_reducible refine My.r_par ?_
  | with_reducible refine My.r_two ?_
  | with_reducible refine My.r_m1 ?_
  | with_reducible refine My.r_isStr ?_
  | with_reducible refine My.r_gCons ?_
  | with_reducible refine My.r_gNil ?_
  | ((with_reducible refine My.r_aug ?_); refine ⟨_, rfl, ?_⟩)
  | with_reducible refine My.r_ip ?_
  | with_reducible refine My.r_bits ?_)
local macro_rules | `(tactic| walk_at "rdg") => `(tactic| (repeat (first | walk_at "rd1" | walk_at "rd2")))

namespace My
open PySem L2
section
variable {σ : L2.St} {H : Hp} {Q : VK} {v x y : V} {te ta to ti td ty tk tv : TE} {K : PySem.W.Frag}
theorem r_disp {trs : List (TE × TE)} (q : ∀ p, H p = none → tPairs trs σ (upd H p (.dK [])) fun ps H2 => H2 p = some (.dK []) ∧ ∃ kvs : List (Key × V), ps = kvs.map (fun kv => (kV kv.1, kv.2)) ∧ kvs.length ≤ 15 ∧ Q (.ref p) (upd H2 p (.dK (mergeK [] kvs)))) : tDisp trs σ H Q := q
theorem r_pair {r : List (TE × TE)} {QP : List (V × V) → Hp → Prop} (q : tk σ H fun x H1 => tv σ H1 fun y H2 => tPairs r σ H2 fun ps H3 => QP ((x, y) :: ps) H3) : tPairs ((tk, tv) :: r) σ H QP := q
theorem r_pair0 {QP : List (V × V) → Hp → Prop} (q : QP [] H) : tPairs [] σ H QP := q
theorem r_dget (q : td σ H fun x H1 => ty σ H1 fun y H2 => ∃ a v, x = .ref a ∧ DGet H2 a y (some v) ∧ Q v H2) : tDGet td ty σ H Q := q
theorem r_din (q : ty σ H fun y H1 => td σ H1 fun x H2 => ∃ a o, x = .ref a ∧ DGet H2 a y o ∧ Q (.bl o.isSome) H2) : tDIn ty td σ H Q := q
theorem Same.dict {H : Hp} {p : Addr} {o1 o2 : HO} (h : H p = none) : Same H (upd (upd H p o1) p o2) := fun b o e => by
  rw [upd_ne (ne_of_none e h), upd_ne (ne_of_none e h)]
  exact e
end
end My

local macro_rules | `(tactic| walk_at "rd3") => `(tactic| first
  | with_reducible refine My.r_pair ?_
  | with_reducible refine My.r_pair0 ?_
  | with_reducible refine My.r_dget ?_
  | with_reducible refine My.r_din ?_)
local macro_rules | `(tactic| walk_at "rdh") => `(tactic| (repeat (first | walk_at "rd1" | walk_at "rd2" | walk_at "rd3")))

namespace My
open PySem L2
section
variable {σ : L2.St} {H : Hp} {Q : VK} {v x y : V} {te ta to ti : TE} {tr : TA} {K : PySem.W.Frag} {nx : L2.St → Hp → Prop} {rt : VK} {bk ct : L2.St → Hp → Prop}
theorem r_lcL {tl : TE} {g : TG} {tt : TT} {vs : List Nat} (q : tl σ H fun x H1 => ∃ a, x = .ref a ∧ (∃ xs, SqL K H1 a xs) ∧ ∀ D, H1 D = none → ∃ W : Nat → Nat → Hp → Prop, (∃ m, W 0 m (upd H1 D (.lst []))) ∧ ∀ i m H, W i m H →
    ((Itl K a).stop i H ∧ Q (.ref D) H) ∨ ((Itl K a).go i H ∧ ∃ Nx : Hp → Prop, (∀ H', Nx H' → ∃ m', m' < m ∧ W (i + 1) m' H') ∧ ∀ x H', (Itl K a).yld i H x H' → g x (wipe σ vs) H' fun σ2 H2 => wipe σ2 vs = wipe σ vs ∧ tt σ2 H2 fun b H3 =>
      if b = true then te σ2 H3 fun y H4 => ∃ acc, H4 D = some (.lst acc) ∧ acc.length < sizeLine ∧ Nx (upd H4 D (.lst (acc ++ [y]))) else Nx H3)) : tLc (iList K tl) g tt te vs σ H Q := q
theorem r_forL {tl : TE} {g : TG} {tb : TS} {D : Ends} (q : tl σ H fun x H1 => ∃ a, x = .ref a ∧ (∃ xs, SqL K H1 a xs) ∧ ∃ W : Nat → Nat → L2.St → Hp → Prop, (∃ m, W 0 m σ H1) ∧ ∀ i m σ H, W i m σ H →
    ((Itl K a).stop i H ∧ D.nx σ H) ∨ ((Itl K a).go i H ∧ ∃ N : L2.St → Hp → Prop, (∀ σ' H', N σ' H' → ∃ m', m' < m ∧ W (i + 1) m' σ' H') ∧ ∀ x H', (Itl K a).yld i H x H' → g x σ H' fun σ2 H2 => tb { D with nx := N, ct := N, bk := D.nx } σ2 H2)) : tFor (iList K tl) g tb D σ H := q
theorem r_cat {l b : Addr} {xs zs : List V} (h1 : H l = some (.lst xs)) (h2 : H b = some (.lst zs)) (n : xs.length + zs.length ≤ 100000) (q : ∀ p, H p = none → Q (.ref p) (upd H p (.lst (xs ++ zs)))) : rCat (.ref l) (.ref b) H Q := ⟨l, b, xs, zs, rfl, rfl, h1, h2, Nat.le_trans n (by decide), q⟩
theorem r_iteR {A B : Prop} {k : Bool} (b : B) (h : k = true → B → A) : if k = true then A else B := by
  cases k with
  | true => exact h rfl b
  | false => exact b
theorem r_inAny {t : Addr} {xs : List V} {b : Bool} {n : Bool} (h : H t = some (.tup xs)) (f : flatV x = true) (fs : xs.all flatV = true) (e : inV x xs = b) (q : Q (.bl (if n then !b else b)) H) : rIn K n x (.ref t) H Q := ⟨t, xs, rfl, .inr (SqT.of h), f, fs, by
  subst e
  cases n <;> exact q⟩
end
end My
namespace My
open PySem L2
theorem r_cut {t u : TS} {σ : L2.St} {H : Hp} {nx : L2.St → Hp → Prop} {rt : VK} {bk ct : L2.St → Hp → Prop} (Mid : L2.St → Hp → Prop) (h1 : t ⟨Mid, rt, bk, ct⟩ σ H) (h2 : ∀ σ' H', Mid σ' H' → u ⟨nx, rt, bk, ct⟩ σ' H') : C8.tCut t u ⟨nx, rt, bk, ct⟩ σ H := ⟨Mid, h1, h2⟩
end My

namespace My
open PySem L2
section
variable {P : Program} {w : World} {K : PySem.W.Frag} {mg : Str → Option Value} {base : Heap}
theorem is_num (T : Txt w K mg) {H : Hp} {p : Addr} {q : Rat} {Q : VK} (h : NumAt T.C_Number H p q) (k : Q (.bl true) H) : rIsi K [.ref p, .ref T.C_Number] H Q := by
  obtain ⟨dx, e⟩ := h
  exact ⟨.ref p, .ref T.C_Number, .ref T.C_Number, .ref T.C_Number, true, rfl, .own _, .base (.ins e T.c_Number T.ty_Number_c T.ty_Number_g T.ty_Number_t T.ty_Number_m), T.ty_Number_k, k⟩
def spNumEq (C : Addr) : Sp := fun vs H Q _ => ∃ (a b : Addr) (x y : Rat), vs = [.ref a, .ref b] ∧ NumAt C H a x ∧ NumAt C H b y ∧ Q (.bl (decide (x = y))) H
theorem rat_dec (x y : Rat) : decide (x = y) = (decide (x.num = y.num) && decide ((x.den : Int) = (y.den : Int))) := by
  rw [Bool.eq_iff_iff, Bool.and_eq_true, decide_eq_true_eq, decide_eq_true_eq, decide_eq_true_eq]
  constructor
  · rintro rfl
    exact ⟨rfl, rfl⟩
  · rintro ⟨h1, h2⟩
    exact Rat.ext h1 (by omega)
theorem ok_Number_eq (T : Txt w K mg) : FnOk P w K mg base CX0 1 T.f_Number_eq T.fd_Number_eq ["self", "other"] (spNumEq T.C_Number) := by
  refine T.F_Number_eq.ok sc_Number_eq (fun vs H Q E h => ?_) (fun cdv A outer s H vs Q E hr h => ?_)
  · obtain ⟨a, b, x, y, rfl, _⟩ := h
    rfl
  · obtain ⟨a, b, x, y, rfl, ⟨dx, ha⟩, ⟨dy, hb⟩, k⟩ := h
    have cN := T.c_Number
    have nT := T.n_Number_top
    have nB := T.n_Number_bottom
    rw [rat_dec] at k
    refine ⟨_, (pss_one (ps_ret (pe_and (pe_callB call_isi (by rfl) T.n_isinstance (by decide +kernel) (pa_cons (pv 1) (pa_cons (pe_glob (v := .ref T.C_Number) (by rfl) T.m_Number rfl) pa_nil))) (pe_and (pe_cmpR op_eq (pe_fld (pv 0) rfl) (pe_fld (pv 1) rfl) (nomark _)) (pe_one (pe_cmpR op_eq (pe_fld (pv 0) rfl) (pe_fld (pv 1) rfl) (nomark _))))))), ?_⟩
    walk_at "rdf"
    refine is_num T ⟨_, hb⟩ ?_
    walk_at "rdf"
    refine r_iteT rfl ?_
    walk_at "rdf"
    refine r_ite (fun e => ?_) (fun e => ?_)
    · rw [e, Bool.true_and] at k
      walk_at "rdf"
      exact k
    · rw [e, Bool.false_and] at k
      exact k
theorem r_eqNum {C : Addr} {H : Hp} {a b : Addr} {x y : Rat} {Q : VK} (ha : NumAt C H a x) (hb : NumAt C H b y) (q : Q (.bl (decide (x = y))) H) : rEqOwn C (spNumEq C) (.ref a) (.ref b) H Q := by
  obtain ⟨dx, h1⟩ := ha
  obtain ⟨dy, h2⟩ := hb
  exact ⟨a, b, dx, dy, _, _, rfl, rfl, h1, h2, a, b, x, y, rfl, ⟨dx, h1⟩, ⟨dy, h2⟩, _, rfl, q⟩
theorem r_neNum {C : Addr} {H : Hp} {a b : Addr} {x y : Rat} {Q : VK} (ha : NumAt C H a x) (hb : NumAt C H b y) (q : Q (.bl (!decide (x = y))) H) : rNeOwn C (spNumEq C) (.ref a) (.ref b) H Q := by
  obtain ⟨dx, h1⟩ := ha
  obtain ⟨dy, h2⟩ := hb
  exact ⟨a, b, dx, dy, _, _, rfl, rfl, h1, h2, a, b, x, y, rfl, ⟨dx, h1⟩, ⟨dy, h2⟩, _, rfl, q⟩
end
end My

namespace My
open PySem L2
section
variable {P : Program} {w : World} {K : PySem.W.Frag} {mg : Str → Option Value} {base : Heap}
theorem no_size (q : Rat) : (nf q).lookup ("size" : Str) = none := nf_no _ (by decide +kernel) (by decide +kernel)
theorem no_below (q : Rat) : (nf q).lookup ("below" : Str) = none := nf_no _ (by decide +kernel) (by decide +kernel)
def spSize (C : Addr) : Sp := fun vs H Q _ => ∃ (p : Addr) (x : Rat), vs = [.ref p] ∧ NumAt C H p x ∧ Bd 8000 x ∧ ∀ (r : Addr) (H' : Hp), Same H H' → H r = none → NumAt C H' r (absQ x) → Q (.ref r) H'
theorem ok_Number_size (T : Txt w K mg) : FnOk P w K mg base CX0 3 T.f_Number_size T.fd_Number_size ["self"] (spSize T.C_Number) := by
  refine T.F_Number_size.ok sc_Number_size (fun vs H Q E h => ?_) (fun cdv A outer s H vs Q E hr h => ?_)
  · obtain ⟨p, x, rfl, _⟩ := h
    rfl
  · obtain ⟨p, x, rfl, ⟨dx, hp⟩, bx, k⟩ := h
    have cN := T.c_Number
    have nT := T.n_Number_top
    have nB := T.n_Number_bottom
    refine ⟨_, (pss_one (ps_ret (pe_make T.mk_Number (ok_Number_init T) (hr.mono (by decide)) (by rfl) T.m_Number T.b_Number_init2 .nil pass0 (pa_cons (pe_callB call_abs (by rfl) T.n_abs (by decide +kernel) (pa_cons (pe_fld (pv 0) rfl) pa_nil)) (pa_cons (pe_fld (pv 0) rfl) pa_nil))))), ?_⟩
    walk_at "rdf"
    refine ⟨_, rfl, ?_⟩
    walk_at "rdf"
    exact mk_num (den_ne x) (Nat.lt_of_lt_of_le (bd_den bx) (Nat.pow_le_pow_right (by decide) (by decide))) fun r H' s n h => k r H' s n h
def spBelow (C : Addr) : Sp := fun vs H Q _ => ∃ (p q : Addr) (x y : Rat), vs = [.ref p, .ref q] ∧ NumAt C H p x ∧ NumAt C H q y ∧ Bd 4000 x ∧ Bd 4000 y ∧ Q (.bl (decide (x < y))) H
theorem ok_Number_below (T : Txt w K mg) : FnOk P w K mg base CX0 1 T.f_Number_below T.fd_Number_below ["self", "other"] (spBelow T.C_Number) := by
  refine T.F_Number_below.ok sc_Number_below (fun vs H Q E h => ?_) (fun cdv A outer s H vs Q E hr h => ?_)
  · obtain ⟨p, q, x, y, rfl, _⟩ := h
    rfl
  · obtain ⟨p, q, x, y, rfl, ⟨dx, hp⟩, ⟨dy, hq⟩, bx, by', k⟩ := h
    have cN := T.c_Number
    have nT := T.n_Number_top
    have nB := T.n_Number_bottom
    refine ⟨_, (pss_one (ps_ret (pe_cmpR op_lt (pe_op op_mulW (pe_fld (pv 0) rfl) (pe_fld (pv 1) rfl)) (pe_op op_mulW (pe_fld (pv 1) rfl) (pe_fld (pv 0) rfl)) (nomark _)))), ?_⟩
    rw [lt_dec] at k
    walk_at "rdf"
    refine r_I (cm bx.1 (bd_den by')) ?_
    walk_at "rdf"
    refine r_I (cm by'.1 (bd_den bx)) ?_
    walk_at "rdf"
    exact k
end
end My

namespace My
open PySem L2
/-- rounded, as it is read -/
theorem rd_rounded {C : Addr} {H : Hp} {p s : Addr} {x y : Rat} {r : Way} {Q : VK} {E : XK} (hp : NumAt C H p x) (hs : NumAt C H s y) (bx : Bd 900 x) (by' : Bd 900 y) (y0 : y ≠ 0) (q : ∀ (t : Addr) (H' : Hp), Same H H' → NumAt C H' t (y * (takenQ r (x / y) : Rat)) → Q (.ref t) H') :
    ([V.ref p, V.ref s].length = 2 ∧ [V.str (wname r)].length = 1 ∧ spRounded C ([V.ref p, V.ref s] ++ [V.str (wname r)]) H Q E) := ⟨rfl, rfl, p, s, x, y, r, rfl, hp, hs, bx, by', y0, q⟩
end My

namespace My
open PySem L2
section
variable {P : Program} {w : World} {K : PySem.W.Frag} {mg : Str → Option Value} {base : Heap}
def spTen (C : Addr) : Sp := fun vs H Q _ => ∃ p : Int, vs = [.int p] ∧ p.natAbs ≤ 900 ∧ ∀ (r : Addr) (H' : Hp), Same H H' → H r = none → NumAt C H' r (T10 p) → Q (.ref r) H'
theorem ten_le (i : Nat) : (10 ^ i : Int).natAbs < 2 ^ (4 * i + 1) := pow10_lt i
theorem ok_ten_to (T : Txt w K mg) : FnOk P w K mg base CX0 3 T.f_ten_to T.fd_ten_to ["power"] (spTen T.C_Number) := by
  refine T.F_ten_to.ok sc_ten_to (fun vs H Q E h => ?_) (fun cdv A outer s H vs Q E hr h => ?_)
  · obtain ⟨p, rfl, _⟩ := h
    rfl
  · obtain ⟨p, rfl, hp, k⟩ := h
    refine ⟨_, (pss_cons (ps_set (i := 1) sc_ten_to.nd rfl (Or.inl rfl) pe_int)
 (pss_cons (ps_for PassesOwn.never rfl (pi_range1 rfl T.n_range (pa_cons (pe_callB call_abs (by rfl) T.n_abs (by decide +kernel) (pa_cons (pv 0) pa_nil)) pa_nil)) (pg_name (i := 2) sc_ten_to.nd rfl (Or.inl rfl))
  (pss_one (ps_set (i := 1) sc_ten_to.nd rfl (Or.inl rfl) (pe_op op_mul (pv 1) pe_int))))
 (pss_cons (ps_if (pt_cmpR op_lt (pv 0) pe_int (nomark _))
  (pss_one (ps_ret (pe_make T.mk_Number (ok_Number_init T) (hr.mono (by decide)) (by rfl) T.m_Number T.b_Number_init2 .nil pass0 (pa_cons pe_int (pa_cons (pv 1) pa_nil)))))
  pss_nil)
 (pss_one (ps_ret (pe_make T.mk_Number (ok_Number_init T) (hr.mono (by decide)) (by rfl) T.m_Number T.b_Number_init1 T.d_Number_init1 pass0 (pa_cons (pv 1) pa_nil))))))), ?_⟩
    walk_at "rdg"
    refine r_rng1 ?_
    walk_at "rdg"
    refine ⟨p, rfl, ?_⟩
    walk_at "rdg"
    refine ⟨_, rfl, by split <;> omega, by split <;> omega, ?_⟩
    have en : (if p < 0 then -p else p).toNat = p.natAbs := by split <;> omega
    rw [en]
    refine for_range (lo := 0) (n := p.natAbs) (fun i σ H' => ∃ v : Option V, σ = [some (.int p), some (.int (10 ^ i)), v] ∧ H' = H) ⟨none, rfl, rfl⟩ ?_ ?_
    · rintro i σ H' hi ⟨v, rfl, rfl⟩
      walk_at "rdg"
      refine ⟨some (.int (0 + (i : Int))), ?_, rfl⟩
      rw [Int.pow_succ]
      rfl
    · rintro σ H' ⟨v, rfl, rfl⟩
      have b := ten_le p.natAbs
      have b9 : (10 ^ p.natAbs : Int).natAbs < 2 ^ 9000 := Nat.lt_of_lt_of_le b (Nat.pow_le_pow_right (by decide) (by omega))
      walk_at "rdg"
      refine r_ite (fun e => ?_) (fun e => ?_)
      · have e' : p < 0 := of_decide_eq_true e
        walk_at "rdg"
        refine mk_num (Int.pow_ne_zero (by decide)) b9 fun r H' s n h => k r H' s n ?_
        have ep : p = -(p.natAbs : Int) := by omega
        have e2 : Rat.divInt 1 (10 ^ p.natAbs : Int) = T10 p := by
          rw [Rat.divInt_eq_div]
          conv => rhs; rw [ep, T10_neg, T10_nat]
          rfl
        rw [← e2]
        exact h
      · have e' : ¬ p < 0 := of_decide_eq_false e
        walk_at "rdg"
        refine mk_num1 fun r H' s n h => k r H' s n ?_
        have ep : p = (p.natAbs : Int) := by omega
        have e2 : ((10 ^ p.natAbs : Int) : Rat) = T10 p := by
          conv => rhs; rw [ep, T10_nat]
        rw [← e2]
        exact h
def spPower (C : Addr) : Sp := fun vs H Q _ => ∃ (a : Addr) (x : Rat) (p : Int), vs = [.ref a] ∧ NumAt C H a x ∧ Bd 900 x ∧ Pow p x ∧ p.natAbs ≤ 300 ∧ ∀ H' : Hp, Same H H' → Q (.int p) H'
theorem ok_power_of (T : Txt w K mg) : FnOk P w K mg base CX0 4 T.f_power_of T.fd_power_of ["number"] (spPower T.C_Number) := by
  refine T.F_power_of.ok sc_power_of (fun vs H Q E h => ?_) (fun cdv A outer s H vs Q E hr h => ?_)
  · obtain ⟨a, x, p, rfl, _⟩ := h
    rfl
  · obtain ⟨a, x, p, rfl, ⟨dx, ha⟩, bx, hp, pp, k⟩ := h
    have cN := T.c_Number
    have nT := T.n_Number_top
    have nB := T.n_Number_bottom
    refine ⟨_, (pss_cons (ps_set (i := 1) sc_power_of.nd rfl (Or.inl rfl) (pe_meth0 (pv 0) T.c_Number T.me_Number_size (ok_Number_size T) (hr.mono (by decide)) T.b_Number_size .nil pass0))
 (pss_cons (ps_set (i := 2) sc_power_of.nd rfl (Or.inl rfl) (pe_op op_fdiv (pe_op op_mul (pe_op op_sub (pe_bits (pe_fld (pv 1) rfl)) (pe_bits (pe_fld (pv 1) rfl))) pe_int) pe_int))
 (pss_cons (ps_while PassesOwn.never (pt_val (pe_meth (pv 1) T.c_Number T.me_Number_below (ok_Number_below T) (hr.mono (by decide)) T.b_Number_below .nil pass0 (pa_cons (pe_call (ok_ten_to T) (hr.mono (by decide)) (by rfl) T.m_ten_to T.F_ten_to.kp T.b_ten_to .nil pass0 (pa_cons (pv 2) pa_nil)) pa_nil)))
  (pss_one (ps_aug (i := 2) sc_power_of.nd rfl (Or.inl rfl) pe_int ip_sub)))
 (pss_cons (ps_while PassesOwn.never (pt_not (pt_val (pe_meth (pv 1) T.c_Number T.me_Number_below (ok_Number_below T) (hr.mono (by decide)) T.b_Number_below .nil pass0 (pa_cons (pe_call (ok_ten_to T) (hr.mono (by decide)) (by rfl) T.m_ten_to T.F_ten_to.kp T.b_ten_to .nil pass0 (pa_cons (pe_op op_add (pv 2) pe_int) pa_nil)) pa_nil))))
  (pss_one (ps_aug (i := 2) sc_power_of.nd rfl (Or.inl rfl) pe_int ip_add)))
 (pss_one (ps_ret (pv 2))))))), ?_⟩
    walk_at "rdg"
    refine r_meth1 ha (no_size _) ?_
    walk_at "rdg"
    refine ⟨a, x, rfl, ⟨_, ha⟩, bx.mono (by decide), fun z H1 s1 n1 h1 => ?_⟩
    obtain ⟨dz, hz⟩ := h1
    have bz := absQ_bd bx
    walk_at "rdg"
    walk_at "rdf"
    walk_at "rdg"
    walk_at "rdf"
    walk_at "rdg"
    have i1 : Builtin.Int.intBits (absQ x).num ≤ 900 := PyProof.Rows.intBits_le bz.1
    have i2 : Builtin.Int.intBits ((absQ x).den : Int) ≤ 900 := PyProof.Rows.intBits_le (bd_den bz)
    generalize hz0 : ((Builtin.Int.intBits (absQ x).num : Int) - (Builtin.Int.intBits ((absQ x).den : Int) : Int)) * 30103 / 100000 = z0
    have z0b : z0.natAbs ≤ 400 := by omega
    refine ⟨fun m σ H' => ∃ c : Int, σ = [some (.ref a), some (.ref z), some (.int c)] ∧ Same H1 H' ∧ c.natAbs ≤ 400 ∧ m = (c - p).toNat, ⟨_, z0, rfl, Same.refl _, z0b, rfl⟩, ?_⟩
    rintro m σ H2 ⟨c, rfl, s2, cb, rfl⟩
    have hz2 := s2 _ _ hz
    walk_at "rdg"
    refine r_meth1 hz2 (no_below _) ?_
    walk_at "rdg"
    refine ⟨c, rfl, by omega, fun t H3 s3 n3 h3 => ?_⟩
    walk_at "rdg"
    refine ⟨z, t, _, _, rfl, ⟨_, s3 _ _ hz2⟩, h3, bz.mono (by decide), (T10_bd (k := 401) (by omega)).mono (by decide), ?_⟩
    walk_at "rdg"
    refine r_ite (fun e => ?_) (fun e => ?_)
    · have lt : p < c := T10_lt_iff.mp (by have := of_decide_eq_true e; have := hp.1; grind)
      refine ⟨fun σ' H' => σ' = [some (.ref a), some (.ref z), some (.int (c - 1))] ∧ H' = H3, ?_, ?_⟩
      · rintro σ' H' ⟨rfl, rfl⟩
        exact ⟨(c - 1 - p).toNat, by omega, c - 1, rfl, s2.trans s3, by omega, rfl⟩
      · walk_at "rdg"
        exact ⟨rfl, rfl⟩
    · have le : c < p + 1 := T10_lt_iff.mp (by have := of_decide_eq_false e; have := hp.2; grind)
      walk_at "rdg"
      refine ⟨fun m σ H' => ∃ c : Int, σ = [some (.ref a), some (.ref z), some (.int c)] ∧ Same H1 H' ∧ c.natAbs ≤ 400 ∧ c ≤ p ∧ m = (p - c).toNat, ⟨_, c, rfl, s2.trans s3, cb, by omega, rfl⟩, ?_⟩
      rintro m σ H4 ⟨c, rfl, s4, cb, cp, rfl⟩
      have hz4 := s4 _ _ hz
      walk_at "rdg"
      refine r_meth1 hz4 (no_below _) ?_
      walk_at "rdg"
      refine ⟨c + 1, rfl, by omega, fun t H5 s5 n5 h5 => ?_⟩
      walk_at "rdg"
      refine ⟨z, t, _, _, rfl, ⟨_, s5 _ _ hz4⟩, h5, bz.mono (by decide), (T10_bd (k := 401) (by omega)).mono (by decide), ?_⟩
      walk_at "rdg"
      refine r_ite (fun e => ?_) (fun e => ?_)
      · have lt : c + 1 < p + 1 := T10_lt_iff.mp (by
          have e' : ¬ absQ x < T10 (c + 1) := by simpa using e
          have := hp.2
          grind)
        refine ⟨fun σ' H' => σ' = [some (.ref a), some (.ref z), some (.int (c + 1))] ∧ H' = H5, ?_, ?_⟩
        · rintro σ' H' ⟨rfl, rfl⟩
          exact ⟨(p - (c + 1)).toNat, by omega, c + 1, rfl, s4.trans s5, by omega, by omega, rfl⟩
        · walk_at "rdg"
          exact ⟨rfl, rfl⟩
      · have e' : absQ x < T10 (c + 1) := by simpa using e
        have gt : p < c + 1 := T10_lt_iff.mp (by have := hp.1; grind)
        have ec : c = p := by omega
        subst ec
        walk_at "rdg"
        exact k _ ((s1.trans s4).trans s5)
end
end My

namespace My
open PySem L2
section
variable {P : Program} {w : World} {K : PySem.W.Frag} {mg : Str → Option Value} {base : Heap}
/-! ### the deck -/
/-- a deck at d, its cells at c -/
def DeckAt (H : Hp) (d c : Addr) : Prop := ∃ (s n : Int) (xs : List Int), H d = some (.lst [.ref c, .int s, .int n]) ∧ H c = some (.lst (xs.map V.int)) ∧ xs.length ≤ 63 ∧ d ≠ c
theorem DeckAt.same {H H' : Hp} {d c : Addr} (s : Same H H') (h : DeckAt H d c) : DeckAt H' d c := let ⟨a, n, xs, h1, h2, h3, h4⟩ := h; ⟨a, n, xs, s _ _ h1, s _ _ h2, h3, h4⟩
/-- what is no list stays -/
theorem Off.keep {H H' : Hp} {d c b : Addr} {o : HO} (s : Off d c H H') (hd : DeckAt H d c) (h : H b = some o) (hn : ∀ xs, o ≠ .lst xs) : H' b = some o := by
  obtain ⟨_, _, _, h1, h2, _, _⟩ := hd
  exact s b o (ne_of h h1 (hn _)) (ne_of h h2 (hn _)) h
def spDeck (K : PySem.W.Frag) : Sp := fun vs H Q _ => ∃ (a : Addr) (ns : List Int), vs = [.ref a] ∧ SqL K H a (ns.map V.int) ∧ ns.length ≤ 63 ∧ ∀ (d c : Addr) (H' : Hp), Same H H' → DeckAt H' d c → Q (.ref d) H'
theorem ok_l_deck (T : Txt w K mg) : FnOk P w K mg base CX0 1 T.f_l_deck T.fd_l_deck ["_law_script"] (spDeck K) := by
  refine T.F_l_deck.ok sc_l_deck (fun vs H Q E h => ?_) (fun cdv A outer s H vs Q E hr h => ?_)
  · obtain ⟨a, ns, rfl, _⟩ := h
    rfl
  · obtain ⟨a, ns, rfl, hS, hl, k⟩ := h
    refine ⟨_, (pss_cons (ps_set (i := 1) sc_l_deck.nd rfl (Or.inl rfl) (pe_callTy call_list_of (by rfl) T.n_list (by decide +kernel) (pa_cons (pe_slice sl_list (pv 0) po_none (po_some pe_int)) pa_nil)))
 (pss_cons (ps_set (i := 2) sc_l_deck.nd rfl (Or.inl rfl) pe_int)
 (pss_cons (ps_for PassesOwn.never rfl (pi_list (pv 1)) (pg_name (i := 3) sc_l_deck.nd rfl (Or.inl rfl))
  (pss_one (ps_set (i := 2) sc_l_deck.nd rfl (Or.inl rfl) (pe_op op_mod (pe_op op_add (pe_op op_add (pe_op op_mul (pv 2) pe_int) (pe_op op_mod (pv 3) pe_int)) pe_int) pe_int))))
 (pss_one (ps_ret (pe_lst (pa_cons (pe_revL (pv 1)) (pa_cons (pv 2) (pa_cons pe_int pa_nil))))))))), ?_⟩
    walk_at "rd"
    refine ⟨a, _, rfl, hS, fun p hp => ?_⟩
    obtain ⟨ms, em, lm⟩ := cut_ints ns 63
    rw [em]
    walk_at "rd"
    refine ⟨p, _, rfl, .inl (SqL.of upd_same), fun l hl' => ?_⟩
    have s1 : Same H (upd H p (.lst (ms.map V.int))) := Same.new hp
    have s2 : Same H (upd (upd H p (.lst (ms.map V.int))) l (.lst (ms.map V.int))) := s1.trans (Same.new hl')
    walk_at "rd"
    generalize hH2 : upd (upd H p (.lst (ms.map V.int))) l (.lst (ms.map V.int)) = H2 at *
    have hL : H2 l = some (.lst (ms.map V.int)) := by rw [← hH2]; exact upd_same
    refine ⟨_, rfl, l, rfl, ⟨_, SqL.of hL⟩, for_list (K := K) (a := l) (xs := ms.map V.int) (fun i σ H' => ∃ (z : Int) (v : Option V), σ = [some (.ref a), some (.ref l), some (.int z), v] ∧ H' = H2)
      ⟨23, none, rfl, rfl⟩ (fun i σ H' _ ⟨_, _, _, e⟩ => e ▸ SqL.of hL) ?_ ?_⟩
    · rintro i y σ H' hi ⟨z, v, rfl, rfl⟩
      obtain ⟨u, rfl⟩ : ∃ u, y = V.int u := by
        rw [List.getElem?_map] at hi
        cases e : ms[i]? with
        | none => rw [e] at hi; cases hi
        | some u => rw [e] at hi; exact ⟨u, (Option.some.inj hi).symm⟩
      walk_at "rd"
      exact ⟨_, _, rfl, rfl⟩
    · rintro σ H' ⟨z, v, rfl, rfl⟩
      walk_at "rd"
      refine ⟨l, _, rfl, SqL.of hL, fun c hc => ?_⟩
      walk_at "rd"
      refine r_new (by show 3 ≤ 1000; decide) fun d hd => ?_
      have hc2 : c ≠ d := ne_of_none upd_same hd
      refine k d c _ ((s2.trans (Same.new hc)).trans (Same.new hd)) ⟨z, 0, ms.reverse, upd_same, ?_, by rw [List.length_reverse]; omega, hc2.symm⟩
      rw [upd_ne hc2, upd_same, List.map_reverse]
/-! ### a draw -/
def spDraw : Sp := fun vs H Q _ => ∃ (d c : Addr) (w : Int), vs = [.ref d, .int w] ∧ DeckAt H d c ∧ 0 < w ∧ w.natAbs < 2 ^ 9000 ∧ ∀ (r : Int) (H' : Hp), Off d c H H' → DeckAt H' d c → 0 ≤ r → r < w → Q (.int r) H'
theorem lin31 {x : Int} : (0 : Int) ≤ x % 2147483647 ∧ x % 2147483647 < 2147483647 := ⟨Int.emod_nonneg _ (by decide), Int.emod_lt_of_pos _ (by decide)⟩
theorem ok_l_draw (T : Txt w K mg) : FnOk P w K mg base CX0 1 T.f_l_draw T.fd_l_draw ["_law_deck_here", "_law_ways"] spDraw := by
  refine T.F_l_draw.ok sc_l_draw (fun vs H Q E h => ?_) (fun cdv A outer s H vs Q E hr h => ?_)
  · obtain ⟨d, c, v, rfl, _⟩ := h
    rfl
  · obtain ⟨d, c, v, rfl, ⟨z, n, xs, hd, hc, hl, ne⟩, v0, vb, k⟩ := h
    refine ⟨_, (pss_cons (ps_asg (pe_op op_add (pe_ix ix_list (pv 0) pe_int (fun _ _ => rfl)) pe_int) (pg_sub (pv 0) pe_int set_list))
 (pss_cons (ps_set (i := 2) sc_l_draw.nd rfl (Or.inl rfl) (pe_ix ix_list (pv 0) pe_int (fun _ _ => rfl)))
 (pss_cons (ps_if (pt_cmpR (op_neD hr.units) (pe_ix ix_list (pv 0) pe_int (fun _ _ => rfl)) (pe_lst pa_nil) (nomark _))
  (pss_cons (ps_set (i := 2) sc_l_draw.nd rfl (Or.inl rfl) (pe_bm0 PySem.F.plainAttrs_list PySem.F.slot_list_pop PySem.F.type_list_pop mt_pop (pe_ix ix_list (pv 0) pe_int (fun _ _ => rfl))))
 (pss_one (ps_if (pt_cmpR op_ge (pv 2) (pe_op op_pow pe_int pe_int) (nomark _))
  (pss_cons (ps_expr (pe_bm PySem.F.plainAttrs_list PySem.F.slot_list_append PySem.F.type_list_append mt_append (pe_ix ix_list (pv 0) pe_int (fun _ _ => rfl)) (pa_cons (pe_op op_fdivW (pv 2) (pv 1)) pa_nil)))
 (pss_one (ps_ret (pe_op op_mod (pv 2) (pv 1)))))
  pss_nil)))
  pss_nil)
 (pss_cons (ps_set (i := 3) sc_l_draw.nd rfl (Or.inl rfl) (pe_op op_mod (pe_op op_mul (pe_op op_add (pe_op op_add (pe_op op_mod (pv 2) pe_int) (pe_op op_mul pe_int (pe_ix ix_list (pv 0) pe_int (fun _ _ => rfl)))) pe_int) pe_int) pe_int))
 (pss_cons (ps_set (i := 3) sc_l_draw.nd rfl (Or.inl rfl) (pe_op op_mod (pe_op op_add (pe_op op_add (pe_op op_mulW (pv 3) (pv 3)) (pe_op op_mul pe_int (pe_ix ix_list (pv 0) pe_int (fun _ _ => rfl)))) pe_int) pe_int))
 (pss_one (ps_ret (pe_op op_mod (pe_op op_fdiv (pe_op op_mod (pe_op op_mulW (pv 3) (pe_op op_add (pe_op op_fdiv (pv 3) pe_int) pe_int)) pe_int) pe_int) (pv 1))))))))), ?_⟩
    walk_at "rd"
    refine r_ixL hd (atI_nat (j := 2) rfl) ?_
    walk_at "rd"
    refine r_setL hd (j := 2) rfl ?_
    have o1 : Off d c H (upd H d (.lst [.ref c, .int z, .int (n + 1)])) := fun b o h1 h2 h => by rw [upd_ne h1]; exact h
    have hd1 : (upd H d (.lst [.ref c, .int z, .int (n + 1)])) d = some (.lst [.ref c, .int z, .int (n + 1)]) := upd_same
    have hc1 : (upd H d (.lst [.ref c, .int z, .int (n + 1)])) c = some (.lst (xs.map V.int)) := by rw [upd_ne ne.symm]; exact hc
    show (_ : TS) _ _ (upd H d (.lst [.ref c, .int z, .int (n + 1)]))
    generalize (upd H d (.lst [.ref c, .int z, .int (n + 1)])) = H1 at *
    have post : ∀ (cell : Int) (H2 : Hp), Off d c H H2 → (∃ ys : List Int, H2 c = some (.lst (ys.map V.int)) ∧ ys.length ≤ 63) → H2 d = some (.lst [.ref c, .int z, .int (n + 1)]) → ∀ r : Int, 0 ≤ r → r < v → Q (.int r) H2 := by
      intro cell H2 o2 ⟨ys, hy, ly⟩ h2 r r0 r1
      exact k r H2 o2 ⟨z, n + 1, ys, h2, hy, ly, ne⟩ r0 r1
    have pmod : ∀ x : Int, 0 ≤ x % v ∧ x % v < v := fun x => ⟨Int.emod_nonneg _ (by omega), Int.emod_lt_of_pos _ v0⟩
    walk_at "rd"
    refine r_ixL hd1 (atI_nat (j := 1) rfl) ?_
    walk_at "rd"
    refine r_ixL hd1 (atI_nat (j := 0) rfl) ?_
    walk_at "rd"
    refine r_new (by show 0 ≤ 1000; decide) fun e he => ?_
    have hc2 : upd H1 e (.lst []) c = some (.lst (xs.map V.int)) := by rw [upd_ne (ne_of_none hc1 he)]; exact hc1
    have hd2 : upd H1 e (.lst []) d = some (.lst [.ref c, .int z, .int (n + 1)]) := by rw [upd_ne (ne_of_none hd1 he)]; exact hd1
    have o2 : Off d c H (upd H1 e (.lst [])) := o1.trans (Off.of (Same.new he))
    refine r_neInts (xs := xs) (ys := []) (SqL.of hc2) (SqL.of upd_same) ?_
    generalize upd H1 e (.lst []) = H2 at *
    walk_at "rd"
    refine r_ite (fun hx => ?_) (fun hx => ?_)
    · obtain ⟨ys, y, rfl⟩ : ∃ ys y, xs = ys ++ [y] := by
        have hx' : xs ≠ [] := by simpa using hx
        exact ⟨xs.dropLast, xs.getLast hx', (List.dropLast_concat_getLast hx').symm⟩
      rw [List.map_append] at hc2
      rw [List.length_append, List.length_singleton] at hl
      walk_at "rd"
      refine r_ixL hd2 (atI_nat (j := 0) rfl) ?_
      refine ⟨ty_list hc2, r_pop hc2 ?_⟩
      have hc3 : upd H2 c (.lst (ys.map V.int)) c = some (.lst (ys.map V.int)) := upd_same
      have hd3 : upd H2 c (.lst (ys.map V.int)) d = some (.lst [.ref c, .int z, .int (n + 1)]) := by rw [upd_ne ne]; exact hd2
      have o3 : Off d c H (upd H2 c (.lst (ys.map V.int))) := o2.trans fun b o h1 h2 h => by rw [upd_ne h2]; exact h
      generalize upd H2 c (.lst (ys.map V.int)) = H3 at *
      walk_at "rd"
      refine r_ite (fun hy => ?_) (fun hy => ?_)
      · walk_at "rd"
        refine r_ixL hd3 (atI_nat (j := 0) rfl) ?_
        refine ⟨ty_list hc3, ?_⟩
        walk_at "rd"
        refine r_I (wide_div v0 vb (by decide) (Nat.le_refl _)) ?_
        walk_at "rd"
        refine r_append hc3 (by rw [List.length_map]; omega) ?_
        walk_at "rd"
        refine r_I v0 ?_
        refine post y _ (o3.trans fun b o h1 h2 h => by rw [upd_ne h2]; exact h) ⟨ys ++ [y / v], ?_, by rw [List.length_append, List.length_singleton]; omega⟩ (by rw [upd_ne ne]; exact hd3) _ (pmod y).1 (pmod y).2
        rw [upd_same, List.map_append]; rfl
      · walk_at "rd"
        refine r_ixL hd3 (atI_nat (j := 2) rfl) ?_
        walk_at "rd"
        refine r_I (wide_mul (a := 31) (b := 31) (by have := @lin31 ((y % 2147483629 + 104729 * (n + 1) + 41) * 48271); omega) (by have := @lin31 ((y % 2147483629 + 104729 * (n + 1) + 41) * 48271); omega) (by decide) (by decide) (by decide)) ?_
        walk_at "rd"
        refine r_ixL hd3 (atI_nat (j := 2) rfl) ?_
        walk_at "rd"
        generalize (y % 2147483629 + 104729 * (n + 1) + 41) * 48271 % 2147483647 * ((y % 2147483629 + 104729 * (n + 1) + 41) * 48271 % 2147483647) + 69621 * (n + 1) + 3 = m
        have hm : (0 : Int) ≤ m % 2147483587 ∧ m % 2147483587 < 2147483587 := ⟨Int.emod_nonneg _ (by decide), Int.emod_lt_of_pos _ (by decide)⟩
        refine r_I (wide_mul (a := 31) (b := 31) (by omega) (by omega) (by decide) (by decide) (by decide)) ?_
        walk_at "rd"
        refine r_I v0 ?_
        exact post y _ o3 ⟨ys, hc3, by omega⟩ hd3 _ (pmod _).1 (pmod _).2
    · walk_at "rd"
      refine r_ixL hd2 (atI_nat (j := 2) rfl) ?_
      walk_at "rd"
      refine r_I (wide_mul (a := 31) (b := 31) (by have := @lin31 ((z % 2147483629 + 104729 * (n + 1) + 41) * 48271); omega) (by have := @lin31 ((z % 2147483629 + 104729 * (n + 1) + 41) * 48271); omega) (by decide) (by decide) (by decide)) ?_
      walk_at "rd"
      refine r_ixL hd2 (atI_nat (j := 2) rfl) ?_
      walk_at "rd"
      generalize (z % 2147483629 + 104729 * (n + 1) + 41) * 48271 % 2147483647 * ((z % 2147483629 + 104729 * (n + 1) + 41) * 48271 % 2147483647) + 69621 * (n + 1) + 3 = m
      have hm : (0 : Int) ≤ m % 2147483587 ∧ m % 2147483587 < 2147483587 := ⟨Int.emod_nonneg _ (by decide), Int.emod_lt_of_pos _ (by decide)⟩
      refine r_I (wide_mul (a := 31) (b := 31) (by omega) (by omega) (by decide) (by decide) (by decide)) ?_
      walk_at "rd"
      refine r_I v0 ?_
      exact post 0 _ o2 ⟨xs, hc2, hl⟩ hd2 _ (pmod _).1 (pmod _).2
end
end My

namespace My
open PySem L2
/-! ### things of any kind: None, truths, whole numbers, texts, tuples and lists of such -/
mutual
inductive Dt (d c : Addr) (H : Hp) : V → PyData → Prop where
  | non : Dt d c H .non .none
  | bl (b : Bool) : Dt d c H (.bl b) (.bool b)
  | int (i : Int) : Dt d c H (.int i) (.int i)
  | str (z : Str) : Dt d c H (.str z) (.str z)
  | tup {p : Addr} {vs : List V} {ds : List PyData} : H p = some (.tup vs) → DtAll d c H vs ds → Dt d c H (.ref p) (.tuple ds)
  | lst {p : Addr} {vs : List V} {ds : List PyData} : p ≠ d → p ≠ c → H p = some (.lst vs) → DtAll d c H vs ds → Dt d c H (.ref p) (.list ds)
  | dc0 {p : Addr} : H p = some (.dK []) → Dt d c H (.ref p) (.dict [])
  | dc1 {p : Addr} {i : Int} {v : V} {x : PyData} : H p = some (.dK [(.inl i, v)]) → Dt d c H v x → Dt d c H (.ref p) (.dict [(.int i, x)])
inductive DtAll (d c : Addr) (H : Hp) : List V → List PyData → Prop where
  | nil : DtAll d c H [] []
  | cons {v : V} {x : PyData} {vs : List V} {ds : List PyData} : Dt d c H v x → DtAll d c H vs ds → DtAll d c H (v :: vs) (x :: ds)
end
mutual
theorem Dt.same {d c : Addr} {H H' : Hp} (s : Same H H') : ∀ {v : V} {x : PyData}, Dt d c H v x → Dt d c H' v x
  | _, _, .non => .non
  | _, _, .bl b => .bl b
  | _, _, .int b => .int b
  | _, _, .str b => .str b
  | _, _, .tup h a => .tup (s _ _ h) (DtAll.same s a)
  | _, _, .lst n1 n2 h a => .lst n1 n2 (s _ _ h) (DtAll.same s a)
  | _, _, .dc0 h => .dc0 (s _ _ h)
  | _, _, .dc1 h a => .dc1 (s _ _ h) (Dt.same s a)
theorem DtAll.same {d c : Addr} {H H' : Hp} (s : Same H H') : ∀ {vs : List V} {xs : List PyData}, DtAll d c H vs xs → DtAll d c H' vs xs
  | _, _, .nil => .nil
  | _, _, .cons a b => .cons (Dt.same s a) (DtAll.same s b)
end
mutual
theorem Dt.off {d c : Addr} {H H' : Hp} (s : Off d c H H') (dk : DeckAt H d c) : ∀ {v : V} {x : PyData}, Dt d c H v x → Dt d c H' v x
  | _, _, .non => .non
  | _, _, .bl b => .bl b
  | _, _, .int b => .int b
  | _, _, .str b => .str b
  | _, _, .tup h a => .tup (s.keep dk h (fun _ z => by cases z)) (DtAll.off s dk a)
  | _, _, .lst n1 n2 h a => .lst n1 n2 (s _ _ n1 n2 h) (DtAll.off s dk a)
  | _, _, .dc0 h => .dc0 (s.keep dk h (fun _ z => by cases z))
  | _, _, .dc1 h a => .dc1 (s.keep dk h (fun _ z => by cases z)) (Dt.off s dk a)
theorem DtAll.off {d c : Addr} {H H' : Hp} (s : Off d c H H') (dk : DeckAt H d c) : ∀ {vs : List V} {xs : List PyData}, DtAll d c H vs xs → DtAll d c H' vs xs
  | _, _, .nil => .nil
  | _, _, .cons a b => .cons (Dt.off s dk a) (DtAll.off s dk b)
end
theorem DtAll.len {d c : Addr} {H : Hp} : ∀ {vs : List V} {xs : List PyData}, DtAll d c H vs xs → vs.length = xs.length
  | _, _, .nil => rfl
  | _, _, .cons _ b => by rw [List.length_cons, List.length_cons, DtAll.len b]
theorem DtAll.get {d c : Addr} {H : Hp} : ∀ {vs : List V} {xs : List PyData} {j : Nat} {v : V}, DtAll d c H vs xs → vs[j]? = some v → ∃ x, xs[j]? = some x ∧ Dt d c H v x
  | _, _, 0, _, .cons a _, h => by
    cases h
    exact ⟨_, rfl, a⟩
  | _, _, j + 1, _, .cons _ b, h => by
    rw [List.getElem?_cons_succ] at h
    obtain ⟨x, h1, h2⟩ := DtAll.get b h
    exact ⟨x, by rw [List.getElem?_cons_succ]; exact h1, h2⟩
theorem Dt.newT {d c : Addr} {H : Hp} {p : Addr} {vs : List V} {ds : List PyData} (hp : H p = none) (a : DtAll d c H vs ds) : Dt d c (upd H p (.tup vs)) (.ref p) (.tuple ds) := .tup upd_same (a.same (Same.new hp))
theorem Dt.newL {d c : Addr} {H : Hp} {p : Addr} {vs : List V} {ds : List PyData} (hp : H p = none) (n1 : p ≠ d) (n2 : p ≠ c) (a : DtAll d c H vs ds) : Dt d c (upd H p (.lst vs)) (.ref p) (.list ds) := .lst n1 n2 upd_same (a.same (Same.new hp))
def isT : PyData → Bool
  | .tuple _ => true
  | _ => false
def isI : PyData → Bool
  | .int _ => true
  | .bool _ => true
  | _ => false
def isB : PyData → Bool
  | .bool _ => true
  | _ => false
def isW : PyData → Bool
  | .int _ => true
  | _ => false
section
variable {d c : Addr} {K : PySem.W.Frag} {H : Hp} {v : V} {x : PyData} {Q : VK}
theorem Dt.ty (h : Dt d c H v x) {n : String} {b : Bool} (e : ∃ t, PySem.W.kitOne K (.type t) (.type n) = some b ∧ ((x = .none → t = "NoneType") ∧ ((∃ z, x = .bool z) → t = "bool") ∧ ((∃ z, x = .int z) → t = "int") ∧ ((∃ z, x = .str z) → t = "str") ∧ ((∃ z, x = .tuple z) → t = "tuple") ∧ ((∃ z, x = .list z) → t = "list") ∧ ((∃ z, x = .dict z) → t = "dict"))) (q : Q (.bl b) H) : rIsi K [v, .ty n] H Q := by
  obtain ⟨t, e, e1, e2, e3, e4, e5, e6, e7⟩ := e
  cases h with
  | non => cases e1 rfl; exact ⟨_, .ty n, .type _, .type n, b, rfl, .ty n, .base .non, e, q⟩
  | bl z => cases e2 ⟨_, rfl⟩; exact ⟨_, .ty n, .type _, .type n, b, rfl, .ty n, .base (.bl _), e, q⟩
  | int z => cases e3 ⟨_, rfl⟩; exact ⟨_, .ty n, .type _, .type n, b, rfl, .ty n, .base (.int _), e, q⟩
  | str z => cases e4 ⟨_, rfl⟩; exact ⟨_, .ty n, .type _, .type n, b, rfl, .ty n, .base (.str _), e, q⟩
  | tup h a => cases e5 ⟨_, rfl⟩; exact ⟨_, .ty n, .type _, .type n, b, rfl, .ty n, .base (.tup h), e, q⟩
  | lst _ _ h a => cases e6 ⟨_, rfl⟩; exact ⟨_, .ty n, .type _, .type n, b, rfl, .ty n, .base (.lst h), e, q⟩
  | dc0 h => cases e7 ⟨_, rfl⟩; exact ⟨_, .ty n, .type _, .type n, b, rfl, .ty n, .base (.dK h), e, q⟩
  | dc1 h a => cases e7 ⟨_, rfl⟩; exact ⟨_, .ty n, .type _, .type n, b, rfl, .ty n, .base (.dK h), e, q⟩
theorem Dt.tuple? (h : Dt d c H v x) (q : Q (.bl (isT x)) H) : rIsi K [v, .ty "tuple"] H Q := by
  cases h with
  | non => exact Dt.ty (d := d) (c := c) .non ⟨"NoneType", kit_ty (show kitB "NoneType" "tuple" = some false from by decide +kernel), by simp⟩ q
  | bl z => exact Dt.ty (d := d) (c := c) (.bl z) ⟨"bool", kit_ty (show kitB "bool" "tuple" = some false from by decide +kernel), by simp⟩ q
  | int z => exact Dt.ty (d := d) (c := c) (.int z) ⟨"int", kit_ty (show kitB "int" "tuple" = some false from by decide +kernel), by simp⟩ q
  | str z => exact Dt.ty (d := d) (c := c) (.str z) ⟨"str", kit_ty (show kitB "str" "tuple" = some false from by decide +kernel), by simp⟩ q
  | tup h a => exact Dt.ty (.tup h a) ⟨"tuple", kit_ty (show kitB "tuple" "tuple" = some true from by decide +kernel), by simp⟩ q
  | lst n1 n2 h a => exact Dt.ty (.lst n1 n2 h a) ⟨"list", kit_ty (show kitB "list" "tuple" = some false from by decide +kernel), by simp⟩ q
  | dc0 h => exact Dt.ty (d := d) (c := c) (.dc0 h) ⟨"dict", kit_ty (show kitB "dict" "tuple" = some false from by decide +kernel), by simp⟩ q
  | dc1 h a => exact Dt.ty (.dc1 h a) ⟨"dict", kit_ty (show kitB "dict" "tuple" = some false from by decide +kernel), by simp⟩ q
theorem Dt.int? (h : Dt d c H v x) (q : Q (.bl (isI x)) H) : rIsi K [v, .ty "int"] H Q := by
  cases h with
  | non => exact Dt.ty (d := d) (c := c) .non ⟨"NoneType", kit_ty (show kitB "NoneType" "int" = some false from by decide +kernel), by simp⟩ q
  | bl z => exact Dt.ty (d := d) (c := c) (.bl z) ⟨"bool", kit_ty (show kitB "bool" "int" = some true from by decide +kernel), by simp⟩ q
  | int z => exact Dt.ty (d := d) (c := c) (.int z) ⟨"int", kit_ty (show kitB "int" "int" = some true from by decide +kernel), by simp⟩ q
  | str z => exact Dt.ty (d := d) (c := c) (.str z) ⟨"str", kit_ty (show kitB "str" "int" = some false from by decide +kernel), by simp⟩ q
  | tup h a => exact Dt.ty (.tup h a) ⟨"tuple", kit_ty (show kitB "tuple" "int" = some false from by decide +kernel), by simp⟩ q
  | lst n1 n2 h a => exact Dt.ty (.lst n1 n2 h a) ⟨"list", kit_ty (show kitB "list" "int" = some false from by decide +kernel), by simp⟩ q
  | dc0 h => exact Dt.ty (d := d) (c := c) (.dc0 h) ⟨"dict", kit_ty (show kitB "dict" "int" = some false from by decide +kernel), by simp⟩ q
  | dc1 h a => exact Dt.ty (.dc1 h a) ⟨"dict", kit_ty (show kitB "dict" "int" = some false from by decide +kernel), by simp⟩ q
theorem Dt.bool? (h : Dt d c H v x) (q : Q (.bl (isB x)) H) : rIsi K [v, .ty "bool"] H Q := by
  cases h with
  | non => exact Dt.ty (d := d) (c := c) .non ⟨"NoneType", kit_ty (show kitB "NoneType" "bool" = some false from by decide +kernel), by simp⟩ q
  | bl z => exact Dt.ty (d := d) (c := c) (.bl z) ⟨"bool", kit_ty (show kitB "bool" "bool" = some true from by decide +kernel), by simp⟩ q
  | int z => exact Dt.ty (d := d) (c := c) (.int z) ⟨"int", kit_ty (show kitB "int" "bool" = some false from by decide +kernel), by simp⟩ q
  | str z => exact Dt.ty (d := d) (c := c) (.str z) ⟨"str", kit_ty (show kitB "str" "bool" = some false from by decide +kernel), by simp⟩ q
  | tup h a => exact Dt.ty (.tup h a) ⟨"tuple", kit_ty (show kitB "tuple" "bool" = some false from by decide +kernel), by simp⟩ q
  | lst n1 n2 h a => exact Dt.ty (.lst n1 n2 h a) ⟨"list", kit_ty (show kitB "list" "bool" = some false from by decide +kernel), by simp⟩ q
  | dc0 h => exact Dt.ty (d := d) (c := c) (.dc0 h) ⟨"dict", kit_ty (show kitB "dict" "bool" = some false from by decide +kernel), by simp⟩ q
  | dc1 h a => exact Dt.ty (.dc1 h a) ⟨"dict", kit_ty (show kitB "dict" "bool" = some false from by decide +kernel), by simp⟩ q
theorem isW_eq (x : PyData) : isW x = (isI x && !isB x) := by cases x <;> rfl
end
end My

namespace My
open PySem PySem.Spec PyProof.Rows L2
/-! ### repr of any such data; arithmetic of truths; a tuple beside () -/
theorem KV.one {i : Int} {v : V} {vs : List (Key × Value)} (h : KV [((.inl i : Key), v)] vs) : ∃ u, vs = [(.inl i, u)] ∧ RelV v u := by
  cases h with
  | cons a b =>
    cases b
    rename_i q
    obtain ⟨k, u⟩ := q
    obtain ⟨e, r⟩ := a
    cases e
    exact ⟨u, rfl, r⟩
section
variable {X : Cx} {pins : List (Addr × Obj)} {σ : L2.St} {H : Hp} {s : Shared} {d c : Addr}
theorem dict_none (I : Inv X pins σ H s) {p : Addr} (h : H p = some (.dK [])) : ∃ (o : Obj) (n : Nat), s.heap.get? p = some o ∧ o.cls = .type "dict" ∧ o.data = .dict #[] n ∧ (p == sysModules) = false := by
  obtain ⟨_, hs, vs, kv, dd⟩ := dk_of I.hok h
  cases kv
  obtain ⟨o, es, ep, ho, hc, hd, _, hp, _⟩ := dd
  obtain ⟨l⟩ := es
  have hz := hp.length
  have : l = [] := List.eq_nil_of_length_eq_zero (by simpa using hz)
  subst this
  exact ⟨o, ep, ho, hc.1, hd, hs⟩
theorem dict_one (I : Inv X pins σ H s) {p : Addr} {i : Int} {v : V} (h : H p = some (.dK [(.inl i, v)])) : ∃ (o : Obj) (n : Nat) (e : DictEntry) (t : Tok), s.heap.get? p = some o ∧ o.cls = .type "dict" ∧ o.data = .dict #[e] n ∧ (p == sysModules) = false ∧ e.key = .int i t ∧ RelV v e.val := by
  obtain ⟨_, hs, vs, kv, dd⟩ := dk_of I.hok h
  obtain ⟨u, rfl, r⟩ := KV.one kv
  obtain ⟨o, es, ep, ho, hc, hd, _, hp, _⟩ := dd
  obtain ⟨l⟩ := es
  have hz := hp.length
  match l, hz with
  | [e], _ =>
    obtain ⟨k1, k2⟩ := hp.get? (i := 0) (e := e) rfl (show [((.inl i : Key), u)][0]? = some (.inl i, u) from rfl)
    have k1' : keyIs (.inl i) e.key = true := k1
    have k2' : e.val = u := k2
    rcases keyIs_shape k1' with ⟨j, t, e1, e2⟩ | ⟨x, t, e1, _⟩
    · cases e1
      exact ⟨o, ep, e, t, ho, hc.1, hd, hs, e2, by rw [k2']; exact r⟩
    · cases e1
mutual
theorem Dt.show (I : Inv X pins σ H s) : ∀ (x : PyData) (v : V) (u : Value), Dt d c H v x → RelV v u → x.showable = true → x.shown.length ≤ sizeLine →
    (∃ as, Reads s.heap u x as) ∧ ∃ bs, ReadAtMost s.heap x.depth bs ∧ ReprK X.prog X.w bs s.heap x.depth u x.shown
  | .none, _, _, h, r, _, _ => by
    cases h; cases r
    exact ⟨⟨_, .none⟩, [], (fun _ z => nomatch z), by simp only [PyData.shown]; exact .of_is ReprIs.none _ _ _⟩
  | .bool b, _, _, h, r, _, _ => by
    cases h; cases r
    exact ⟨⟨_, .bool b⟩, [], (fun _ z => nomatch z), by simp only [PyData.shown]; exact .of_is (ReprIs.bool b) _ _ _⟩
  | .int i, _, _, h, r, hs, _ => by
    cases h
    obtain ⟨t, rfl⟩ := r
    exact ⟨⟨_, .int i t⟩, [], (fun _ z => nomatch z), by simp only [PyData.shown]; exact .of_is (ReprIs.int t (by simpa [PyData.showable] using hs)) _ _ _⟩
  | .str x, _, _, h, r, _, hz => by
    cases h
    obtain ⟨t, rfl⟩ := r
    exact ⟨⟨_, .str x t⟩, [], (fun _ z => nomatch z), by simp only [PyData.shown]; exact .of_is (ReprIs.str x t (by simpa only [PyData.shown] using hz)) _ _ _⟩
  | .list ds, _, _, h, r, hs, hz => by
    cases h with
    | lst _ _ hp ha =>
      cases r
      obtain ⟨its, rv, ⟨o, n, ho, hc, _, hd⟩, _⟩ := I.list (SqL.of hp)
      have hz' : (listText (PyData.shownAll ds)).length ≤ sizeLine := by simpa only [PyData.shown] using hz
      obtain ⟨⟨as, hr⟩, bs, hb, hk⟩ := Dt.showAll I ds _ its ha rv (by simpa [PyData.showable] using hs) (fun t ht => Nat.le_trans (listText_mem_le ht) hz')
      have rr := Reads.list ho hc hd hr
      have hna : _ ∉ bs := not_mem_of_deeper rr (by simp only [PyData.depth]; omega) hb
      refine ⟨⟨_, rr⟩, _ :: bs, ReadAtMost.cons rr (by simp only [PyData.depth]; omega) hb, ?_⟩
      simp only [PyData.depth, PyData.shown]
      cases its with
      | nil =>
        cases hr
        simp only [PyData.shownAll, listText_nil]
        exact .listEmpty ho hc hd
      | cons y l => exact .list ho hc hd hna (by simpa using hk.length_eq) (fun i y e => hk.item i y (by simpa using e))
  | .tuple ds, _, _, h, r, hs, hz => by
    cases h with
    | tup hp ha =>
      cases r
      obtain ⟨its, rv, ⟨o, ho, hc, n, hd⟩, _⟩ := I.tuple (SqT.of hp)
      have hz' : (tupleText (PyData.shownAll ds)).length ≤ sizeLine := by simpa only [PyData.shown] using hz
      obtain ⟨⟨as, hr⟩, bs, hb, hk⟩ := Dt.showAll I ds _ its ha rv (by simpa [PyData.showable] using hs) (fun t ht => Nat.le_trans (tupleText_mem_le ht) hz')
      have rr := Reads.tuple ho hc hd hr
      have hna : _ ∉ bs := not_mem_of_deeper rr (by simp only [PyData.depth]; omega) hb
      refine ⟨⟨_, rr⟩, _ :: bs, ReadAtMost.cons rr (by simp only [PyData.depth]; omega) hb, ?_⟩
      simp only [PyData.depth, PyData.shown]
      exact .tuple ho hc hd hna hk
  | .dict kvs, _, _, h, r, hs, hz => by
    cases h with
    | dc0 hp =>
      cases r
      obtain ⟨o, n, ho, hc, hd, hsys⟩ := dict_none I hp
      have rr : Reads s.heap _ (.dict []) _ := Reads.dict (kvs := []) ho hc hd .nil .nil
      refine ⟨⟨_, rr⟩, [_], ReadAtMost.cons rr (n := 0) (by simp only [PyData.depth]; omega) (fun _ z => nomatch z), ?_⟩
      simp only [PyData.depth, PyData.shown]
      exact .dict ho hc hd hsys (fun z => nomatch z) .nil
    | @dc1 p i v x hp ha =>
      cases r
      obtain ⟨o, n, e, t, ho, hc, hd, hsys, ek, rv⟩ := dict_one I hp
      have hz' : (dictText (PyData.shownKv [(.int i, x)])).length ≤ sizeLine := by simpa only [PyData.shown] using hz
      have hs' : PyData.showable (.int i) = true ∧ x.showable = true := by
        have := hs
        simp only [PyData.showable, PyData.showableKv, Bool.and_true] at this
        exact (Bool.and_eq_true_iff.mp this)
      have hl : (PyData.shown (.int i) ++ ": " ++ x.shown).length ≤ sizeLine := Nat.le_trans (dictText_mem_le (by simp only [PyData.shownKv]; exact List.mem_cons_self ..)) hz'
      obtain ⟨⟨as, hr⟩, bs, hb, hk⟩ := Dt.show I x v e.val ha rv hs'.2 (by rw [strLen_append, strLen_append] at hl; omega)
      have rr : Reads s.heap _ (.dict [(.int i, x)]) _ := Reads.dict (kvs := [(.int i, x)]) ho hc hd (.cons (by show Reads s.heap e.key (.int i) []; rw [ek]; exact .int i t) .nil) (.cons hr .nil)
      have hd' : PyData.depth (.dict [(.int i, x)]) = x.depth + 1 := by
        simp [PyData.depth, PyData.depthKv]
      have hna : _ ∉ bs := not_mem_of_deeper rr (by rw [hd']; omega) hb
      refine ⟨⟨_, rr⟩, _ :: bs, ReadAtMost.cons rr (by rw [hd']; omega) hb, ?_⟩
      rw [hd']
      simp only [PyData.shown, PyData.shownKv]
      exact .dict ho hc hd hsys hna (.cons (by rw [ek]; exact .of_is (ReprIs.int t (by simpa [PyData.showable] using hs'.1)) _ _ _) hk .nil)
theorem Dt.showAll (I : Inv X pins σ H s) : ∀ (xs : List PyData) (vs : List V) (us : List Value), DtAll d c H vs xs → Vals vs us → PyData.showableAll xs = true → (∀ t ∈ PyData.shownAll xs, t.length ≤ sizeLine) →
    (∃ as, ReadsAll s.heap us xs as) ∧ ∃ bs, ReadAtMost s.heap (PyData.depthAll xs) bs ∧ ReprAllK X.prog X.w bs s.heap (PyData.depthAll xs) us (PyData.shownAll xs)
  | [], _, _, h, r, _, _ => by
    cases h; cases r
    exact ⟨⟨_, .nil⟩, [], (fun _ z => nomatch z), by simp only [PyData.shownAll]; exact .nil⟩
  | x :: xs, _, _, h, r, hs, hz => by
    cases h with
    | cons h1 h2 =>
      cases r with
      | cons r1 r2 =>
        have hs' : x.showable = true ∧ PyData.showableAll xs = true := by simpa [PyData.showableAll] using hs
        obtain ⟨⟨as, q1⟩, bs, b1, k1⟩ := Dt.show I x _ _ h1 r1 hs'.1 (hz _ (by simp only [PyData.shownAll]; exact List.mem_cons_self ..))
        obtain ⟨⟨as', q2⟩, bs', b2, k2⟩ := Dt.showAll I xs _ _ h2 r2 hs'.2 (fun t ht => hz t (by simp only [PyData.shownAll]; exact List.mem_cons_of_mem _ ht))
        refine ⟨⟨_, .cons q1 q2⟩, bs ++ bs', ?_, ?_⟩
        · simp only [PyData.depthAll]
          exact (b1.mono (Nat.le_max_left _ _)).append (b2.mono (Nat.le_max_right _ _))
        · simp only [PyData.depthAll, PyData.shownAll]
          exact .cons ((k1.more fun b z => List.mem_append_left _ z).level_le (Nat.le_max_left _ _)) (k2.more_le (fun b z => List.mem_append_right _ z) (Nat.le_max_right _ _))
end
/-- repr of any such data -/
def rReprQ : List V → Hp → VK → Prop := fun xs H Q => ∃ (d c : Addr) (v : V) (x : PyData), xs = [v] ∧ Dt d c H v x ∧ x.showable = true ∧ x.depth ≤ 60 ∧ x.shown.length ≤ sizeLine ∧ Q (.str x.shown) H
theorem call_reprQ (hA : X.A.guards = some []) (hu : X.A.units + 64 < cLine) : CallR X (.builtin "repr") rReprQ := by
  rintro pins s σ H xs us Q I r ⟨d, c, v, x, rfl, hd, hs, hz, hl, q⟩
  obtain ⟨u, rfl, rx⟩ := vals1 r
  have hA1 : X.A.in1.guards = some [] := hA
  have hu1 : X.A.in1.units = X.A.units + 1 := rfl
  cases hd with
  | non =>
    cases rx
    exact PySem.P.repr_of_none ⟨.str _, H, I.tok _, ⟨_, rfl⟩, q⟩
  | bl b =>
    cases rx
    exact PySem.P.repr_of_bool ⟨.str _, H, I.tok _, ⟨_, rfl⟩, q⟩
  | int i =>
    obtain ⟨t, rfl⟩ := rx
    exact PySem.P.repr_of_int (by simpa [PyData.showable] using hs) ⟨.str _, H, I.tok _, ⟨_, rfl⟩, q⟩
  | str z =>
    obtain ⟨t, rfl⟩ := rx
    exact PySem.P.repr_of_str ⟨.str _, H, I.tok _, ⟨_, rfl⟩, q⟩ hl
  | @lst p vs ds _ _ hp ha =>
    cases rx
    obtain ⟨its, rv, ⟨o, n, ho, hc, _, hd⟩, _⟩ := I.list (SqL.of hp)
    have hz' : (listText (PyData.shownAll ds)).length ≤ sizeLine := by simpa only [PyData.shown] using hl
    obtain ⟨⟨as, hr⟩, bs, hb, hk⟩ := Dt.showAll I ds _ its ha rv (by simpa [PyData.showable] using hs) (fun t ht => Nat.le_trans (listText_mem_le ht) hz')
    have hna : p ∉ bs := not_mem_of_deeper (Reads.list ho hc hd hr) (by simp only [PyData.depth]; omega) hb
    have dep : PyData.depthAll ds + 1 ≤ 60 := by simpa only [PyData.depth] using hz
    simp only [PyData.shown] at q
    refine call_repr_slot (by omega) ⟨o, ho, hc⟩ PySem.F.slot_list_repr.toG ?_
    cases its with
    | nil =>
      cases hr
      simp only [PyData.shownAll, listText_nil] at q
      exact call_list_repr_empty ⟨o, ho, hc⟩ ho hd ⟨_, _, rfl, .str _, H, I.tok _, ⟨_, rfl⟩, q⟩
    | cons y l => exact call_list_reprK ho hc hd hna (by simpa using hk.length_eq) (fun i y e => hk.item i y (by simpa using e)) hA1 (fun b _ => Clear.nil b) (by omega) (fun _ _ e => e) (fun h' u tk hk => ⟨_, _, rfl, .str _, H, I.kept hk, ⟨_, rfl⟩, q⟩) hz'
  | @tup p vs ds hp ha =>
    cases rx
    obtain ⟨its, rv, ⟨o, ho, hc, n, hd⟩, _⟩ := I.tuple (SqT.of hp)
    have hz' : (tupleText (PyData.shownAll ds)).length ≤ sizeLine := by simpa only [PyData.shown] using hl
    obtain ⟨⟨as, hr⟩, bs, hb, hk⟩ := Dt.showAll I ds _ its ha rv (by simpa [PyData.showable] using hs) (fun t ht => Nat.le_trans (tupleText_mem_le ht) hz')
    have hna : p ∉ bs := not_mem_of_deeper (Reads.tuple ho hc hd hr) (by simp only [PyData.depth]; omega) hb
    have dep : PyData.depthAll ds + 1 ≤ 60 := by simpa only [PyData.depth] using hz
    simp only [PyData.shown] at q
    exact call_repr_slot (by omega) ⟨o, ho, hc⟩ PySem.F.slot_tuple_repr (call_tuple_reprK ho hc hd hna hk hA1 (fun b _ => Clear.nil b) (by omega) (fun _ _ e => e) (fun h' u tk hk => ⟨_, _, rfl, .str _, H, I.kept hk, ⟨_, rfl⟩, q⟩) hz')
  | @dc0 p hp =>
    cases rx
    obtain ⟨o, n, ho, hc, hd, hsys⟩ := dict_none I hp
    have hz' : (dictText []).length ≤ sizeLine := by simpa only [PyData.shown, PyData.shownKv] using hl
    simp only [PyData.shown, PyData.shownKv] at q
    exact call_repr_slot (by omega) ⟨o, ho, hc⟩ PySem.F.slot_dict_repr (call_dict_reprK (as := []) (d := 0) ho hc hd hsys (fun z => nomatch z) .nil hA1 (fun b _ => Clear.nil b) (by omega) (fun _ _ e => e) (fun h' u tk hk => ⟨_, _, rfl, .str _, H, I.kept hk, ⟨_, rfl⟩, q⟩) hz')
  | @dc1 p i v x hp ha =>
    cases rx
    obtain ⟨o, n, e, t, ho, hc, hd, hsys, ek, rv⟩ := dict_one I hp
    have hz' : (dictText (PyData.shownKv [(.int i, x)])).length ≤ sizeLine := by simpa only [PyData.shown] using hl
    have hs' : PyData.showable (.int i) = true ∧ x.showable = true := by
      have := hs
      simp only [PyData.showable, PyData.showableKv, Bool.and_true] at this
      exact (Bool.and_eq_true_iff.mp this)
    have hl' : (PyData.shown (.int i) ++ ": " ++ x.shown).length ≤ sizeLine := Nat.le_trans (dictText_mem_le (by simp only [PyData.shownKv]; exact List.mem_cons_self ..)) hz'
    obtain ⟨⟨as, hr⟩, bs, hb, hk⟩ := Dt.show I x v e.val ha rv hs'.2 (by rw [strLen_append, strLen_append] at hl'; omega)
    have rr : Reads s.heap (.ref p) (.dict [(.int i, x)]) _ := Reads.dict (kvs := [(.int i, x)]) ho hc hd (.cons (by show Reads s.heap e.key (.int i) []; rw [ek]; exact .int i t) .nil) (.cons hr .nil)
    have hd' : PyData.depth (.dict [(.int i, x)]) = x.depth + 1 := by simp [PyData.depth, PyData.depthKv]
    have hna : p ∉ bs := not_mem_of_deeper rr (by rw [hd']; omega) hb
    rw [hd'] at hz
    simp only [PyData.shown, PyData.shownKv] at q
    exact call_repr_slot (by omega) ⟨o, ho, hc⟩ PySem.F.slot_dict_repr (call_dict_reprK ho hc hd hsys hna (.cons (by rw [ek]; exact .of_is (ReprIs.int t (by simpa [PyData.showable] using hs'.1)) _ _ _) hk .nil) hA1 (fun b _ => Clear.nil b) (by omega) (fun _ _ e => e) (fun h' u tk hk => ⟨_, _, rfl, .str _, H, I.kept hk, ⟨_, rfl⟩, q⟩) (by simpa only [PyData.shownKv, PyData.shown] using hz'))
/-- a tuple beside () -/
def rNeNil : R2 := fun x y H Q => ∃ (a b : Addr) (xs : List V), x = .ref a ∧ y = .ref b ∧ H a = some (.tup xs) ∧ H b = some (.tup []) ∧ Q (.bl (!decide (xs.length = 0))) H
theorem op_neNil (hu : X.A.units + 64 < cLine) : OpR X (compareOp .NotEq) rNeNil := by
  rintro pins s σ H x y v u Q I rx ry ⟨a, b, xs, rfl, rfl, ha, hb, q⟩
  cases rx
  cases ry
  obtain ⟨its, rv, p, _⟩ := I.tuple (SqT.of ha)
  obtain ⟨its', rv', p', _⟩ := I.tuple (SqT.of hb)
  cases rv'
  have e : (!((List.range (min its.toArray.size ([] : List Value).toArray.size)).all (fun _ => false) && its.toArray.size == ([] : List Value).toArray.size)) = !decide (xs.length = 0) := by
    have hl : xs.length = its.length := rv.length
    rw [hl]
    cases its <;> simp
  exact SeqAt.RcNeAt.tuples p p' (by omega) (e := fun _ => false) (fun j h1 h2 => nomatch h2) X.prog X.w X.xe _ (fin_bl I q e.symm)
/-- whole numbers and truths, reckoned with -/
inductive IV : V → Int → Prop where
  | int (i : Int) : IV (.int i) i
  | bl (b : Bool) : IV (.bl b) (if b = true then 1 else 0)
theorem floordiv_bool {prog : Program} {w : World} {A : Around} {E : Value → Shared → Prop} {s : Shared} {Q : Value → Shared → Prop} {a : Bool} {b : Int} {u : Tok} (h1 : 0 < b) (h2 : b < 1073741824)
    (h : Q (.int ((if a = true then (1 : Int) else 0).fdiv b) s.toks) { s with toks := s.toks + 1 }) : wpAny (model prog w) A (binaryOp .FloorDiv (.bool a) (.int b u)) Q E s := by
  have g : Gives (Builtin.«int.__floordiv__» ⟨[.bool a, .int b u], []⟩) (.int ((if a = true then (1 : Int) else 0).fdiv b)) := by
    have hc0 : ¬(b == 0) = true := by simp; omega
    have hc1 : ¬(Builtin.divisionGoesByPylong (if a = true then (1 : Int) else 0) b) = true := by rw [PyProof.noPylong_small (by omega)]; decide
    exact .of_wp fun M A E s Q h => by obtain ⟨hp, g, d, tk, os⟩ := s; wp_walk; exact ⟨_, rfl, h⟩
  exact binaryOp_left_gives (op := .FloorDiv) (T := "bool") (U := "int") (by decide) rfl (fun s' => typeIs_int s' b u) PySem.F.fills_bool_floordiv PySem.F.fills_int_floordiv PySem.F.sub_int_bool PySem.F.slot_bool_floordiv PySem.F.slot_int_rfloordiv PySem.F.entry_int_floordiv (PySem.F.args_int_floordiv_2 _ _) g trivial h
def rB (C : Int → Int → Prop) (g : Int → Int → V) : R2 := fun x y H Q => ∃ i j, IV x i ∧ y = .int j ∧ C i j ∧ Q (g i j) H
def rB' (C : Int → Int → Prop) (g : Int → Int → V) : R2 := fun x y H Q => ∃ i j, x = .int i ∧ IV y j ∧ C i j ∧ Q (g i j) H
theorem op_addB : OpR X (binaryOp .Add) (rB (fun _ _ => True) fun i j => .int (i + j)) := by
  rintro pins s σ H x y v u Q I rx ry ⟨i, j, hx, rfl, _, q⟩
  obtain ⟨t, rfl⟩ := ry
  cases hx with
  | int =>
    obtain ⟨t', rfl⟩ := rx
    exact add_int ⟨.int _, H, I.tok _, ⟨_, rfl⟩, q⟩
  | bl b =>
    cases rx
    exact PySem.IntBool.add_bool_int ⟨.int _, H, I.tok _, ⟨_, rfl⟩, q⟩
theorem op_subB : OpR X (binaryOp .Sub) (rB (fun _ _ => True) fun i j => .int (i - j)) := by
  rintro pins s σ H x y v u Q I rx ry ⟨i, j, hx, rfl, _, q⟩
  obtain ⟨t, rfl⟩ := ry
  cases hx with
  | int =>
    obtain ⟨t', rfl⟩ := rx
    exact sub_int ⟨.int _, H, I.tok _, ⟨_, rfl⟩, q⟩
  | bl b =>
    cases rx
    exact PySem.IntBool.sub_bool_int ⟨.int _, H, I.tok _, ⟨_, rfl⟩, q⟩
theorem op_subB' : OpR X (binaryOp .Sub) (rB' (fun _ _ => True) fun i j => .int (i - j)) := by
  rintro pins s σ H x y v u Q I rx ry ⟨i, j, rfl, hy, _, q⟩
  obtain ⟨t, rfl⟩ := rx
  cases hy with
  | int =>
    obtain ⟨t', rfl⟩ := ry
    exact sub_int ⟨.int _, H, I.tok _, ⟨_, rfl⟩, q⟩
  | bl b =>
    cases ry
    exact PySem.IntBool.sub_int_bool ⟨.int _, H, I.tok _, ⟨_, rfl⟩, q⟩
theorem op_mulB' : OpR X (binaryOp .Mult) (rB' CMul fun i j => .int (i * j)) := by
  rintro pins s σ H x y v u Q I rx ry ⟨i, j, rfl, hy, hc, q⟩
  obtain ⟨t, rfl⟩ := rx
  cases hy with
  | int =>
    obtain ⟨t', rfl⟩ := ry
    exact mul_int ⟨.int _, H, I.tok _, ⟨_, rfl⟩, q⟩ hc.ok
  | bl b =>
    cases ry
    exact PySem.IntBool.mul_int_bool ⟨.int _, H, I.tok _, ⟨_, rfl⟩, q⟩
theorem op_fdivB : OpR X (binaryOp .FloorDiv) (rB CDiv fun i j => .int (i / j)) := by
  rintro pins s σ H x y v u Q I rx ry ⟨i, j, hx, rfl, hc, q⟩
  obtain ⟨t, rfl⟩ := ry
  cases hx with
  | int => exact op_fdiv _ s σ H _ _ _ _ Q I rx (show RelV (.int j) _ from ⟨_, rfl⟩) ⟨_, _, rfl, rfl, hc, q⟩
  | bl b =>
    cases rx
    have h1 : (0 : Int) < j := hc.1
    have h2 : j < 1073741824 := hc.2
    exact floordiv_bool h1 h2 (by rw [Int.fdiv_eq_ediv_of_nonneg _ (by omega)]; exact ⟨.int _, H, I.tok _, ⟨_, rfl⟩, q⟩)
theorem op_eqB : OpR X (compareOp .Eq) (rB (fun _ _ => True) fun i j => .bl (decide (i = j))) := by
  rintro pins s σ H x y v u Q I rx ry ⟨i, j, hx, rfl, _, q⟩
  obtain ⟨t, rfl⟩ := ry
  cases hx with
  | int =>
    obtain ⟨t', rfl⟩ := rx
    exact eq_int (fin_bl I q (by rw [Bool.eq_iff_iff]; simp))
  | bl b =>
    cases rx
    exact PySem.EqBoolInt.eq_bool_int (fin_bl I q (by rw [Bool.eq_iff_iff]; simp))
theorem call_strB : CallR X (.type "str") (fun xs H Q => ∃ x i, xs = [x] ∧ IV x i ∧ i.natAbs < 2 ^ 420 ∧ ∀ z : Str, (decide (z.cps.size ≤ 500) && z.cps.toList.all fun k => decide (k < 16 ^ 8)) = true → Q (.str z) H) := by
  rintro pins s σ H xs us Q I r ⟨x, i, rfl, hx, hz, q⟩
  obtain ⟨u, rfl, rx⟩ := vals1 r
  cases hx with
  | int =>
    obtain ⟨t, rfl⟩ := rx
    have l : i.natAbs.log2 < 420 := PySem.Flt.log2_lt_of (by decide) hz
    refine PySem.P.str_of_int (by omega) ⟨.str _, H, I.tok _, ⟨_, rfl⟩, q _ ?_⟩
    rw [Bool.and_eq_true]
    constructor
    · refine decide_eq_true ?_
      have e := int_text_length_le (k := 420) (by decide) l
      have e2 := PySem.ofString_length (toString i)
      exact Nat.le_trans (Nat.le_of_eq e2) (by omega)
    · rw [List.all_eq_true]
      intro k hk
      refine decide_eq_true (Nat.lt_of_not_le fun g => ?_)
      exact int_text_free' k ⟨by omega, .inr (by omega)⟩ i hk
  | bl b =>
    cases rx
    exact PySem.P.str_of_bool ⟨.str _, H, I.tok _, ⟨_, rfl⟩, q _ (by cases b <;> decide +kernel)⟩
end
end My

namespace My
open PySem L2
section
variable {P : Program} {w : World} {K : PySem.W.Frag} {mg : Str → Option Value} {base : Heap}
theorem r_chain {r r' : R2} {ta tb tc : TE} {σ : L2.St} {H : Hp} {Q : VK} (q : ta σ H fun x H1 => tb σ H1 fun y H2 => r x y H2 fun z H3 => ∃ k, z = .bl k ∧ (if k = true then tc σ H3 fun w' H4 => r' y w' H4 Q else Q (.bl false) H3)) : tChain r r' ta tb tc σ H Q := q
theorem r_tyes {σ : L2.St} {H : Hp} {A B : Hp → Prop} (q : A H) : tYes σ H (fun b H3 => if b = true then A H3 else B H3) := (iteT (A := A H) (B := B H) q : if true = true then A H else B H)
def spWholeD : Sp := fun vs H Q _ => ∃ (d c : Addr) (v : V) (x : PyData), vs = [v] ∧ Dt d c H v x ∧ Q (.bl (isW x)) H
theorem ok_is_whole (T : Txt w K mg) : FnOk P w K mg base CX0 1 T.f_is_whole T.fd_is_whole ["thing"] spWholeD := by
  refine T.F_is_whole.ok sc_is_whole (fun vs H Q E h => ?_) (fun cdv A outer s H vs Q E hr h => ?_)
  · obtain ⟨d, c, v, x, rfl, _⟩ := h
    rfl
  · obtain ⟨d, c, v, x, rfl, hv, k⟩ := h
    refine ⟨_, (pss_one (ps_ret (pe_and (pe_callB call_isi (by rfl) T.n_isinstance (by decide +kernel) (pa_cons (pv 0) (pa_cons (pe_bltn (v := .ty "int") (by rfl) T.n_int (by decide +kernel) rfl) pa_nil))) (pe_one (pe_not (pe_callB call_isi (by rfl) T.n_isinstance (by decide +kernel) (pa_cons (pv 0) (pa_cons (pe_bltn (v := .ty "bool") (by rfl) T.n_bool (by decide +kernel) rfl) pa_nil)))))))), ?_⟩
    rw [isW_eq] at k
    walk_at "rdh"
    refine hv.int? ?_
    walk_at "rdh"
    refine r_ite (fun e => ?_) (fun e => ?_)
    · rw [e, Bool.true_and] at k
      walk_at "rdh"
      refine hv.bool? ?_
      walk_at "rdh"
      exact k
    · rw [e, Bool.false_and] at k
      exact k
/-- the comprehension that asks each item of a tuple -/
theorem rd_wholes {H : Hp} {d c p : Addr} {vs : List V} {ds : List PyData} (hp : H p = some (.tup vs)) (hd : DtAll d c H vs ds) (hl : ds.length ≤ 1000) {D : Addr} (hD : H D = none) {g : TG} {tb : TE} {i : Nat} {σ : L2.St} {Q : Hp → Prop} {vz : List Nat}
    (hg : ∀ (v : V) (H1 : Hp) (R : L2.St → Hp → Prop), R ((wipe σ vz).set i (some v)) H1 → g v (wipe σ vz) H1 R)
    (hw : ∀ v : V, wipe ((wipe σ vz).set i (some v)) vz = wipe σ vz)
    (hb : ∀ (v : V) (x : PyData) (H1 : Hp) (R : VK), Dt d c H1 v x → R (.bl (isW x)) H1 → tb ((wipe σ vz).set i (some v)) H1 R)
    (q : ∀ H' : Hp, Same H H' → H' D = some (.lst ((ds.map isW).map V.bl)) → Q H') :
    ∃ W : Nat → Nat → Hp → Prop, (∃ m, W 0 m (upd H D (.lst []))) ∧ ∀ i m H, W i m H →
      ((Itt K p).stop i H ∧ Q H) ∨ ((Itt K p).go i H ∧ ∃ Nx : Hp → Prop, (∀ H', Nx H' → ∃ m', m' < m ∧ W (i + 1) m' H') ∧ ∀ x H', (Itt K p).yld i H x H' → g x (wipe σ vz) H' fun σ2 H2 => wipe σ2 vz = wipe σ vz ∧ tYes σ2 H2 fun b H3 =>
        if b = true then tb σ2 H3 fun y H4 => ∃ acc, H4 D = some (.lst acc) ∧ acc.length < sizeLine ∧ Nx (upd H4 D (.lst (acc ++ [y]))) else Nx H3) := by
  have hlen := hd.len
  refine lc_tup (K := K) (a := p) (xs := vs) (fun j H' => Same H H' ∧ H' D = some (.lst (((ds.map isW).take j).map V.bl)) ∧ j ≤ vs.length) ⟨Same.new hD, upd_same, by omega⟩ (fun j H' _ ⟨s, _⟩ => SqT.of (s _ _ hp)) ?_ ?_
  · rintro j z H1 hz ⟨s1, hD1, hj⟩
    obtain ⟨x, hx, hv⟩ := hd.get hz
    have jl : j < vs.length := by
      rcases Nat.lt_or_ge j vs.length with h | h
      · exact h
      · rw [List.getElem?_eq_none h] at hz
        cases hz
    refine hg _ _ _ ⟨hw z, ?_⟩
    refine r_tyes ?_
    refine hb z x H1 _ (hv.same s1) ?_
    refine ⟨_, hD1, by rw [List.length_map, List.length_take, List.length_map]; exact Nat.lt_of_le_of_lt (Nat.le_trans (Nat.min_le_right _ _) hl) (by decide), ?_, ?_, by omega⟩
    · intro b o hb
      rw [upd_ne (ne_of_none hb hD)]
      exact s1 _ _ hb
    · rw [upd_same]
      have e : (ds.map isW).take (j + 1) = (ds.map isW).take j ++ [isW x] := by
        rw [List.take_add_one, List.getElem?_map, hx]
        rfl
      rw [e, List.map_append]
      rfl
  · rintro H1 ⟨s1, hD1, _⟩
    refine q H1 s1 ?_
    rw [hD1, List.take_of_length_le (by rw [List.length_map]; omega)]
end
end My

namespace My
open PySem L2
mutual
def sm : PyData → Bool
  | .int i => decide (i.natAbs < 2 ^ 500)
  | .tuple ds => smAll ds
  | .list ds => smAll ds
  | _ => true
def smAll : List PyData → Bool
  | [] => true
  | d :: ds => sm d && smAll ds
end
def isPap : PyData → Bool
  | .tuple [.int b, .int a] => decide (a = b + 1)
  | _ => false
def goodP (x y : Rat) (p : Int) : PyData → Bool
  | .tuple [.int b, .int a] => decide (a = b + 1) && (decide ((b : Rat) < x * T10 p) && (decide (x * T10 p < (a : Rat)) && (!backQ b p x y && !backQ a p x y)))
  | _ => false
def isNon : PyData → Bool
  | .none => true
  | _ => false
def goodS (x y : Rat) : PyData → Bool
  | .tuple [.int c, .int p, pap] => (decide (0 ≤ p) && decide (p ≤ 60)) && (backQ c p x y && if p = 0 then isNon pap else goodP x y (p - 1) pap)
  | _ => false
theorem goodP_pap {x y : Rat} {p : Int} {d : PyData} (h : isPap d = false) : goodP x y p d = false := by
  unfold goodP
  split
  · rename_i b a
    have : decide (a = b + 1) = false := h
    rw [this]; rfl
  · rfl
def betw (l m : Int) : PyData → Bool
  | .int i => decide (l ≤ i) && decide (i ≤ m)
  | _ => false
theorem of_nt {b : Bool} (h : (!b) = true) : b = false := by cases b <;> first | rfl | cases h
theorem of_nf {b : Bool} (h : (!b) = false) : b = true := by cases b <;> first | rfl | cases h
theorem back_dec {c p m : Int} {x y : Rat} (hy : 0 < y) (hx : x = (m : Rat) * y) : backQ c p x y = if absQ ((c : Rat) * T10 (-p) - x) = y / 2 then decide (m % 2 = 0) else decide (absQ ((c : Rat) * T10 (-p) - x) < y / 2) := by
  rw [Bool.eq_iff_iff, backQ_iff hy hx]
  unfold okd
  split
  · rename_i h
    rw [h, decide_eq_true_eq]
    constructor
    · rintro (g | ⟨_, g⟩)
      · exact absurd g (by grind)
      · exact g
    · exact fun g => .inr ⟨rfl, g⟩
  · rename_i h
    rw [decide_eq_true_eq]
    exact ⟨fun g => g.elim id (fun z => absurd z.1 h), .inl⟩
section
variable {P : Program} {w : World} {K : PySem.W.Frag} {mg : Str → Option Value} {base : Heap}
def spBetween : Sp := fun vs H Q _ => ∃ (d c : Addr) (v : V) (x : PyData) (l m : Int), vs = [v, .int l, .int m] ∧ Dt d c H v x ∧ Q (.bl (betw l m x)) H
theorem ok_is_whole_between (T : Txt w K mg) : FnOk P w K mg base CX0 2 T.f_is_whole_between T.fd_is_whole_between ["thing", "least", "most"] spBetween := by
  refine T.F_is_whole_between.ok sc_is_whole_between (fun vs H Q E h => ?_) (fun cdv A outer s H vs Q E hr h => ?_)
  · obtain ⟨d, c, v, x, l, m, rfl, _⟩ := h
    rfl
  · obtain ⟨d, c, v, x, l, m, rfl, hv, k⟩ := h
    refine ⟨_, (pss_one (ps_ret (pe_and (pe_call (ok_is_whole T) (hr.mono (by decide)) (by rfl) T.m_is_whole T.F_is_whole.kp T.b_is_whole .nil pass0 (pa_cons (pv 0) pa_nil)) (pe_one (pe_chain op_le op_le (pv 1) (pv 0) (pv 2)))))), ?_⟩
    walk_at "rdh"
    refine ⟨d, c, v, x, rfl, hv, ?_⟩
    walk_at "rdh"
    refine r_ite (fun e => ?_) (fun e => ?_)
    · obtain ⟨i, rfl⟩ : ∃ i, x = .int i := by cases x <;> first | exact ⟨_, rfl⟩ | cases e
      cases hv
      refine r_chain ?_
      walk_at "rdh"
      have k' : Q (.bl (decide (l ≤ i) && decide (i ≤ m))) H := k
      refine r_ite (fun e => ?_) (fun e => ?_)
      · rw [e, Bool.true_and] at k'
        walk_at "rdh"
        exact k'
      · rw [e, Bool.false_and] at k'
        exact k'
    · have : betw l m x = false := by cases x <;> first | rfl | cases e
      rw [this] at k
      exact k
def spLead (C : Addr) : Sp := fun vs H Q _ => ∃ (kp s : Addr) (cn p : Int) (x y : Rat) (m : Int), vs = [.int cn, .int p, .ref kp, .ref s] ∧ NumAt C H kp x ∧ NumAt C H s y ∧ Bd 200 x ∧ Bd 300 y ∧ 0 < y ∧ x = (m : Rat) * y ∧ cn.natAbs < 2 ^ 500 ∧ p.natAbs ≤ 60 ∧ ∀ H' : Hp, Same H H' → Q (.bl (backQ cn p x y)) H'
theorem ok_leads_back_shortchecks (T : Txt w K mg) : FnOk P w K mg base CX0 4 T.f_leads_back_shortchecks T.fd_leads_back_shortchecks ["count", "places", "kept", "step"] (spLead T.C_Number) := by
  refine T.F_leads_back_shortchecks.ok sc_leads_back_shortchecks (fun vs H Q E h => ?_) (fun cdv A outer s H vs Q E hr h => ?_)
  · obtain ⟨kp, s, cn, p, x, y, m, rfl, _⟩ := h
    rfl
  · obtain ⟨kp, s', cn, p, x, y, m, rfl, hk, hs, bx, by', y0, hm, cb, pb, k⟩ := h
    have cN := T.c_Number
    have nT := T.n_Number_top
    have nB := T.n_Number_bottom
    refine ⟨_, (pss_cons (ps_set (i := 4) sc_leads_back_shortchecks.nd rfl (Or.inl rfl) (pe_meth0 (pe_meth (pe_meth (pe_make T.mk_Number (ok_Number_init T) (hr.mono (by decide)) (by rfl) T.m_Number T.b_Number_init1 T.d_Number_init1 pass0 (pa_cons (pv 0) pa_nil)) T.c_Number T.me_Number_times (ok_Number_times T) (hr.mono (by decide)) T.b_Number_times .nil pass0 (pa_cons (pe_call (ok_ten_to T) (hr.mono (by decide)) (by rfl) T.m_ten_to T.F_ten_to.kp T.b_ten_to .nil pass0 (pa_cons (pe_un un_neg (pv 1)) pa_nil)) pa_nil)) T.c_Number T.me_Number_less (ok_Number_less T) (hr.mono (by decide)) T.b_Number_less .nil pass0 (pa_cons (pv 2) pa_nil)) T.c_Number T.me_Number_size (ok_Number_size T) (hr.mono (by decide)) T.b_Number_size .nil pass0))
 (pss_cons (ps_set (i := 5) sc_leads_back_shortchecks.nd rfl (Or.inl rfl) (pe_meth (pv 3) T.c_Number T.me_Number_over (ok_Number_over T) (hr.mono (by decide)) T.b_Number_over .nil pass0 (pa_cons (pe_make T.mk_Number (ok_Number_init T) (hr.mono (by decide)) (by rfl) T.m_Number T.b_Number_init1 T.d_Number_init1 pass0 (pa_cons pe_int pa_nil)) pa_nil)))
 (pss_cons (ps_if (pt_cmpR (op_eqOwn (ok_Number_eq T) T.me_Number_eq.at_ T.me_Number_eq.fn T.b_Number_eq (hr.mono (by decide))) (pv 4) (pv 5) (nomark _))
  (pss_one (ps_ret (pe_cmpR op_eq (pe_op op_mod (pe_fld (pe_meth (pv 2) T.c_Number T.me_Number_over (ok_Number_over T) (hr.mono (by decide)) T.b_Number_over .nil pass0 (pa_cons (pv 3) pa_nil)) rfl) pe_int) pe_int (nomark _))))
  pss_nil)
 (pss_one (ps_ret (pe_meth (pv 4) T.c_Number T.me_Number_below (ok_Number_below T) (hr.mono (by decide)) T.b_Number_below .nil pass0 (pa_cons (pv 5) pa_nil))))))), ?_⟩
    rw [back_dec y0 hm] at k
    have bc : Bd 500 (cn : Rat) := Bd.int cb (by decide)
    have bt : Bd 241 (T10 (-p)) := T10_bd (k := 60) (by omega)
    walk_at "rdh"
    refine mk_num1 fun n H1 s1 n1 h1 => ?_
    obtain ⟨dn, hn⟩ := h1
    refine r_meth1 hn (no_times _) ?_
    walk_at "rdh"
    refine ⟨-p, rfl, by omega, fun t H2 s2 n2 h2 => ?_⟩
    walk_at "rdh"
    refine ⟨n, t, _, T10 (-p), rfl, ⟨_, s2 _ _ hn⟩, h2, bc.mono (by decide), bt.mono (by decide), trivial, fun u H3 s3 n3 h3 => ?_⟩
    have bu : Bd 741 ((cn : Rat) * T10 (-p)) := bc.mul bt
    obtain ⟨du, hu⟩ := h3
    refine r_meth1 hu (no_less _) ?_
    walk_at "rdh"
    have s13 := (s1.trans s2).trans s3
    refine ⟨u, kp, _, x, rfl, ⟨_, hu⟩, hk.same s13, bu.mono (by decide), bx.mono (by decide), trivial, fun v H4 s4 n4 h4 => ?_⟩
    have bv : Bd 942 ((cn : Rat) * T10 (-p) - x) := bu.sub bx
    obtain ⟨dv, hv⟩ := h4
    refine r_meth1 hv (no_size _) ?_
    walk_at "rdh"
    refine ⟨v, _, rfl, ⟨_, hv⟩, bv.mono (by decide), fun o H5 s5 n5 h5 => ?_⟩
    have s15 := (s13.trans s4).trans s5
    obtain ⟨ds, hs5⟩ := hs.same s15
    walk_at "rdh"
    refine r_meth1 hs5 (no_over _) ?_
    walk_at "rdh"
    refine mk_num1 fun q H6 s6 n6 h6 => ?_
    walk_at "rdh"
    have e2 : ((2 : Int) : Rat) = 2 := rfl
    refine ⟨s', q, y, _, rfl, ⟨_, s6 _ _ hs5⟩, h6, by'.mono (by decide), (Bd.int (n := 2) (i := 2) (by decide) (by decide)).mono (by decide), (show ((2 : Int) : Rat) ≠ 0 by decide), fun z H7 s7 n7 h7 => ?_⟩
    have h7' : NumAt T.C_Number H7 z (y / 2) := h7
    have bz : Bd 302 (y / 2) := by'.div (Bd.int (n := 2) (i := 2) (by decide) (by decide)) (show ((2 : Int) : Rat) ≠ 0 by decide)
    have s57 := s6.trans s7
    have s17 := s15.trans s57
    walk_at "rdh"
    refine r_eqNum (h5.same s57) h7' ?_
    walk_at "rdh"
    refine r_ite (fun e => ?_) (fun e => ?_)
    · rw [if_pos (of_decide_eq_true e)] at k
      obtain ⟨dk, hk7⟩ := hk.same s17
      walk_at "rdh"
      refine r_meth1 hk7 (no_over _) ?_
      walk_at "rdh"
      refine ⟨kp, s', x, y, rfl, ⟨_, hk7⟩, hs.same s17, bx.mono (by decide), by'.mono (by decide), by grind, fun r H8 s8 n8 h8 => ?_⟩
      obtain ⟨dr, hr8⟩ := h8
      have er : x / y = (m : Rat) := by rw [hm]; grind
      have en : (x / y).num = m := by rw [er]; exact Rat.num_intCast m
      walk_at "rdf"
      rw [en]
      walk_at "rdh"
      exact k _ (s17.trans s8)
    · rw [if_neg (of_decide_eq_false e)] at k
      obtain ⟨d5, h57⟩ := h5.same s57
      walk_at "rdh"
      refine r_meth1 h57 (no_below _) ?_
      walk_at "rdh"
      refine ⟨o, z, _, _, rfl, ⟨_, h57⟩, h7', (absQ_bd bv).mono (by decide), bz.mono (by decide), ?_⟩
      exact k _ s17
def spPap : Sp := fun vs H Q _ => ∃ (d c : Addr) (v : V) (x : PyData), vs = [v] ∧ Dt d c H v x ∧ ∀ H' : Hp, Same H H' → Q (.bl (isPap x)) H'
theorem ok_is_paper (T : Txt w K mg) : FnOk P w K mg base CX0 2 T.f_is_paper T.fd_is_paper ["thing"] spPap := by
  refine T.F_is_paper.ok sc_is_paper (fun vs H Q E h => ?_) (fun cdv A outer s H vs Q E hr h => ?_)
  · obtain ⟨d, c, v, x, rfl, _⟩ := h
    rfl
  · obtain ⟨d, c, v, x, rfl, hv, k⟩ := h
    refine ⟨_, (pss_one (ps_ret (pe_and (pe_callB call_isi (by rfl) T.n_isinstance (by decide +kernel) (pa_cons (pv 0) (pa_cons (pe_bltn (v := .ty "tuple") (by rfl) T.n_tuple (by decide +kernel) rfl) pa_nil))) (pe_and (pe_cmpR op_eq (pe_callB call_len_seq (by rfl) T.n_len PySem.boot_len (pa_cons (pv 0) pa_nil)) pe_int (nomark _)) (pe_and (pe_callB (cr_all rfl) (by rfl) T.n_all (by decide +kernel) (pa_cons (pe_lc (own := [("part", 1)]) (g := gName 1) (tt := tYes) rfl sc_is_paper.nd (pi_tup (pv 0)) (blkOk_by (own := [("part", 1)]) (N := ["thing", "part"]) (sc := defScope s_is_paper) (by decide +kernel)) (fun _ _ _ _ _ => pg_name (i := 1) sc_is_paper.nd rfl (Or.inl rfl)) (fun _ _ _ _ _ => pts_nil) (fun _ _ _ _ _ => (pe_call (ok_is_whole T) (hr.mono (by decide)) (by rfl) T.m_is_whole T.F_is_whole.kp T.b_is_whole .nil pass0 (pa_cons (pv 1) pa_nil)))) pa_nil)) (pe_one (pe_cmpR op_eq (pe_ix ix_tup (pv 0) pe_int (fun _ _ => rfl)) (pe_op op_add (pe_ix ix_tup (pv 0) pe_int (fun _ _ => rfl)) pe_int) (nomark _)))))))), ?_⟩
    walk_at "rdh"
    refine hv.tuple? ?_
    walk_at "rdh"
    refine r_ite (fun e => ?_) (fun e => ?_)
    rotate_left
    · have g : isPap x = false := by cases x <;> first | rfl | cases e
      have := k H (Same.refl _)
      rw [g] at this
      exact this
    cases hv with
    | non => cases e
    | bl z => cases e
    | int z => cases e
    | str z => cases e
    | lst _ _ _ _ => cases e
    | dc0 _ => cases e
    | dc1 _ _ => cases e
    | @tup p vs ds hp hd =>
      have hlen := hd.len
      walk_at "rdh"
      refine ⟨p, _, rfl, .inr (SqT.of hp), ?_⟩
      walk_at "rdh"
      refine r_ite (fun e => ?_) (fun e => ?_)
      rotate_left
      · have g : isPap (.tuple ds) = false := by
          unfold isPap
          split
          · rename_i b a h
            injection h with h
            exact absurd (show (vs.length : Int) = 2 by rw [hlen, h]; rfl) (of_decide_eq_false e)
          · rfl
        have := k H (Same.refl _)
        rw [g] at this
        exact this
      have e2 : vs.length = 2 := by have := of_decide_eq_true e; omega
      walk_at "rdh"
      refine r_lcT ?_
      walk_at "rdh"
      refine ⟨p, rfl, ⟨_, SqT.of hp⟩, fun D hD => rd_wholes hp hd (by omega) hD (i := 1) (fun v H1 R h => ?_) (fun v => rfl) (fun v x H1 R hv h => ?_) fun H1 s1 hD1 => ?_⟩
      · walk_at "rdh"
        exact h
      · walk_at "rdh"
        exact ⟨d, c, v, x, rfl, hv, h⟩
      · have k1 := k H1 s1
        have hp1 := s1 _ _ hp
        walk_at "rdh"
        refine ⟨D, _, rfl, SqL.of hD1, ?_⟩
        cases hd with
        | nil => cases e2
        | @cons v0 x0 _ _ hv0 hd =>
          cases hd with
          | nil => cases e2
          | @cons v1 x1 _ _ hv1 hd =>
            cases hd with
            | cons _ _ => simp at e2
            | nil =>
              walk_at "rdh"
              refine r_ite (fun e => ?_) (fun e => ?_)
              · obtain ⟨a0, a1⟩ : isW x0 = true ∧ isW x1 = true := by simpa using e
                obtain ⟨b, rfl⟩ : ∃ b, x0 = .int b := by cases x0 <;> first | exact ⟨_, rfl⟩ | cases a0
                obtain ⟨a, rfl⟩ : ∃ a, x1 = .int a := by cases x1 <;> first | exact ⟨_, rfl⟩ | cases a1
                cases hv0
                cases hv1
                walk_at "rdh"
                refine r_ixT hp1 (atI_nat (j := 1) rfl) ?_
                walk_at "rdh"
                refine r_ixT hp1 (atI_nat (j := 0) rfl) ?_
                walk_at "rdh"
                exact k1
              · have g : isPap (.tuple [x0, x1]) = false := by
                  unfold isPap
                  split
                  · rename_i b a h
                    injection h with h
                    injection h with h0 h
                    injection h with h1 h
                    subst h0 h1
                    cases e
                  · rfl
                rw [g] at k1
                exact k1
def spNone (C : Addr) : Sp := fun vs H Q _ => ∃ (d c n s : Addr) (v : V) (b a p : Int) (x y : Rat) (m : Int), vs = [v, .int p, .ref n, .ref s] ∧ Dt d c H v (.tuple [.int b, .int a]) ∧ NumAt C H n x ∧ NumAt C H s y ∧ Bd 200 x ∧ Bd 300 y ∧ 0 < y ∧ x = (m : Rat) * y ∧ a.natAbs < 2 ^ 500 ∧ b.natAbs < 2 ^ 500 ∧ p.natAbs ≤ 60 ∧
  ∀ H' : Hp, Same H H' → Q (.bl (decide ((b : Rat) < x * T10 p) && (decide (x * T10 p < (a : Rat)) && (!backQ b p x y && !backQ a p x y)))) H'
theorem ok_shows_none (T : Txt w K mg) : FnOk P w K mg base CX0 5 T.f_shows_none T.fd_shows_none ["paper", "places", "number", "step"] (spNone T.C_Number) := by
  refine T.F_shows_none.ok sc_shows_none (fun vs H Q E h => ?_) (fun cdv A outer s H vs Q E hr h => ?_)
  · obtain ⟨d, c, n, s, v, b, a, p, x, y, m, rfl, _⟩ := h
    rfl
  · obtain ⟨d, c, n, s', v, b, a, p, x, y, m, rfl, hv, hn, hs, bx, by', y0, hm, ab, bb, pb, k⟩ := h
    refine ⟨_, (pss_cons (ps_asg (pv 0) (pg_tup rfl (pgs_cons (pg_name (i := 4) sc_shows_none.nd rfl (Or.inl rfl)) (pgs_cons (pg_name (i := 5) sc_shows_none.nd rfl (Or.inl rfl)) pgs_nil))))
 (pss_cons (ps_set (i := 6) sc_shows_none.nd rfl (Or.inl rfl) (pe_meth (pv 2) T.c_Number T.me_Number_times (ok_Number_times T) (hr.mono (by decide)) T.b_Number_times .nil pass0 (pa_cons (pe_call (ok_ten_to T) (hr.mono (by decide)) (by rfl) T.m_ten_to T.F_ten_to.kp T.b_ten_to .nil pass0 (pa_cons (pv 1) pa_nil)) pa_nil)))
 (pss_one (ps_ret (pe_and (pe_meth (pe_make T.mk_Number (ok_Number_init T) (hr.mono (by decide)) (by rfl) T.m_Number T.b_Number_init1 T.d_Number_init1 pass0 (pa_cons (pv 4) pa_nil)) T.c_Number T.me_Number_below (ok_Number_below T) (hr.mono (by decide)) T.b_Number_below .nil pass0 (pa_cons (pv 6) pa_nil)) (pe_and (pe_meth (pv 6) T.c_Number T.me_Number_below (ok_Number_below T) (hr.mono (by decide)) T.b_Number_below .nil pass0 (pa_cons (pe_make T.mk_Number (ok_Number_init T) (hr.mono (by decide)) (by rfl) T.m_Number T.b_Number_init1 T.d_Number_init1 pass0 (pa_cons (pv 5) pa_nil)) pa_nil)) (pe_and (pe_not (pe_call (ok_leads_back_shortchecks T) (hr.mono (by decide)) (by rfl) T.m_leads_back_shortchecks T.F_leads_back_shortchecks.kp T.b_leads_back_shortchecks .nil pass0 (pa_cons (pv 4) (pa_cons (pv 1) (pa_cons (pv 2) (pa_cons (pv 3) pa_nil)))))) (pe_one (pe_not (pe_call (ok_leads_back_shortchecks T) (hr.mono (by decide)) (by rfl) T.m_leads_back_shortchecks T.F_leads_back_shortchecks.kp T.b_leads_back_shortchecks .nil pass0 (pa_cons (pv 5) (pa_cons (pv 1) (pa_cons (pv 2) (pa_cons (pv 3) pa_nil)))))))))))))), ?_⟩
    cases hv with
    | @tup q vs ds hp hd =>
    cases hd with
    | cons h0 hd =>
    cases hd with
    | cons h1 hd =>
    cases hd
    cases h0
    cases h1
    have bt : Bd 241 (T10 p) := T10_bd (k := 60) pb
    obtain ⟨dn, hn'⟩ := hn
    walk_at "rdh"
    refine r_gTup hp rfl ?_
    walk_at "rdh"
    refine r_meth1 hn' (no_times _) ?_
    walk_at "rdh"
    refine ⟨p, rfl, by omega, fun t H1 s1 n1 h1 => ?_⟩
    walk_at "rdh"
    refine ⟨n, t, x, T10 p, rfl, ⟨_, s1 _ _ hn'⟩, h1, bx.mono (by decide), bt.mono (by decide), trivial, fun u H2 s2 n2 h2 => ?_⟩
    have h2' : NumAt T.C_Number H2 u (x * T10 p) := h2
    have bu : Bd 441 (x * T10 p) := bx.mul bt
    have ba : Bd 500 (a : Rat) := Bd.int ab (by decide)
    have bb' : Bd 500 (b : Rat) := Bd.int bb (by decide)
    have s12 := s1.trans s2
    walk_at "rdh"
    refine mk_num1 fun r H3 s3 n3 h3 => ?_
    obtain ⟨dr, hr3⟩ := h3
    refine r_meth1 hr3 (no_below _) ?_
    walk_at "rdh"
    refine ⟨r, u, _, _, rfl, ⟨_, hr3⟩, h2'.same s3, bb'.mono (by decide), bu.mono (by decide), ?_⟩
    have s13 := s12.trans s3
    walk_at "rdh"
    refine r_ite (fun e => ?_) (fun e => ?_)
    rotate_left
    · rw [e, Bool.false_and] at k
      exact k _ s13
    rw [e, Bool.true_and] at k
    obtain ⟨du, hu3⟩ := h2'.same s3
    walk_at "rdh"
    refine r_meth1 hu3 (no_below _) ?_
    walk_at "rdh"
    refine mk_num1 fun r2 H4 s4 n4 h4 => ?_
    walk_at "rdh"
    refine ⟨u, r2, _, _, rfl, ⟨_, s4 _ _ hu3⟩, h4, bu.mono (by decide), ba.mono (by decide), ?_⟩
    have s14 := s13.trans s4
    walk_at "rdh"
    refine r_ite (fun e => ?_) (fun e => ?_)
    rotate_left
    · rw [e, Bool.false_and] at k
      exact k _ s14
    rw [e, Bool.true_and] at k
    walk_at "rdh"
    refine ⟨n, s', b, p, x, y, m, rfl, ⟨_, s14 _ _ hn'⟩, hs.same s14, bx, by', y0, hm, bb, by omega, fun H5 s5 => ?_⟩
    walk_at "rdh"
    refine r_ite (fun e => ?_) (fun e => ?_)
    rotate_left
    · rw [e, Bool.false_and] at k
      exact k _ (s14.trans s5)
    rw [e, Bool.true_and] at k
    walk_at "rdh"
    refine ⟨n, s', a, p, x, y, m, rfl, ⟨_, s5 _ _ (s14 _ _ hn')⟩, hs.same (s14.trans s5), bx, by', y0, hm, ab, by omega, fun H6 s6 => ?_⟩
    walk_at "rdh"
    exact k _ ((s14.trans s5).trans s6)
def spHoldsS (C : Addr) : Sp := fun vs H Q _ => ∃ (d c n s : Addr) (v : V) (th : PyData) (x y : Rat) (m : Int), vs = [.ref n, .ref s, v] ∧ Dt d c H v th ∧ sm th = true ∧ NumAt C H n x ∧ NumAt C H s y ∧ Bd 200 x ∧ Bd 300 y ∧ 0 < y ∧ x = (m : Rat) * y ∧
  ∀ H' : Hp, Same H H' → Q (.bl (goodS x y th)) H'
theorem isNon_dec {d c : Addr} {H : Hp} {v : V} {x : PyData} (h : Dt d c H v x) : decide (v = V.non) = isNon x := by
  cases h with
  | non => rfl
  | _ => exact decide_eq_false (by intro z; cases z)
theorem ok_shortest_holds (T : Txt w K mg) : FnOk P w K mg base CX0 6 T.f_shortest_holds T.fd_shortest_holds ["number", "step", "thing"] (spHoldsS T.C_Number) := by
  refine T.F_shortest_holds.ok sc_shortest_holds (fun vs H Q E h => ?_) (fun cdv A outer s H vs Q E hr h => ?_)
  · obtain ⟨d, c, n, s, v, th, x, y, m, rfl, _⟩ := h
    rfl
  · obtain ⟨d, c, n, s', v, th, x, y, m, rfl, hv, sm', hn, hs, bx, by', y0, hm, k⟩ := h
    refine ⟨_, (pss_cons (ps_if (PW.pt (pw_or (pt_not (pt_val (pe_callB call_isi (by rfl) T.n_isinstance (by decide +kernel) (pa_cons (pv 2) (pa_cons (pe_bltn (v := .ty "tuple") (by rfl) T.n_tuple (by decide +kernel) rfl) pa_nil))))) (pw_or1 (pt_cmpR op_ne (pe_callB call_len_seq (by rfl) T.n_len PySem.boot_len (pa_cons (pv 2) pa_nil)) pe_int (nomark _)))))
  (pss_one (ps_ret pe_bl))
  pss_nil)
 (pss_cons (ps_asg (pv 2) (pg_tup rfl (pgs_cons (pg_name (i := 3) sc_shortest_holds.nd rfl (Or.inl rfl)) (pgs_cons (pg_name (i := 4) sc_shortest_holds.nd rfl (Or.inl rfl)) (pgs_cons (pg_name (i := 5) sc_shortest_holds.nd rfl (Or.inl rfl)) pgs_nil)))))
 (pss_cons (ps_if (PW.pt (pw_or (pt_not (pt_val (pe_call (ok_is_whole T) (hr.mono (by decide)) (by rfl) T.m_is_whole T.F_is_whole.kp T.b_is_whole .nil pass0 (pa_cons (pv 3) pa_nil)))) (pw_or1 (pt_not (pt_val (pe_call (ok_is_whole_between T) (hr.mono (by decide)) (by rfl) T.m_is_whole_between T.F_is_whole_between.kp T.b_is_whole_between .nil pass0 (pa_cons (pv 4) (pa_cons pe_int (pa_cons (pe_glob (by rfl) T.m_MOST_PLACES T.r_MOST_PLACES) pa_nil)))))))))
  (pss_one (ps_ret pe_bl))
  pss_nil)
 (pss_cons (ps_if (pt_not (pt_val (pe_call (ok_leads_back_shortchecks T) (hr.mono (by decide)) (by rfl) T.m_leads_back_shortchecks T.F_leads_back_shortchecks.kp T.b_leads_back_shortchecks .nil pass0 (pa_cons (pv 3) (pa_cons (pv 4) (pa_cons (pv 0) (pa_cons (pv 1) pa_nil)))))))
  (pss_one (ps_ret pe_bl))
  pss_nil)
 (pss_cons (ps_if (pt_cmpR op_eq (pv 4) pe_int (nomark _))
  (pss_one (ps_ret (pe_cmpR op_isN (pv 5) pe_non (nomark _))))
  pss_nil)
 (pss_one (ps_ret (pe_and (pe_call (ok_is_paper T) (hr.mono (by decide)) (by rfl) T.m_is_paper T.F_is_paper.kp T.b_is_paper .nil pass0 (pa_cons (pv 5) pa_nil)) (pe_one (pe_call (ok_shows_none T) (hr.mono (by decide)) (by rfl) T.m_shows_none T.F_shows_none.kp T.b_shows_none .nil pass0 (pa_cons (pv 5) (pa_cons (pe_op op_sub (pv 4) pe_int) (pa_cons (pv 0) (pa_cons (pv 1) pa_nil)))))))))))))), ?_⟩
    walk_at "rdh"
    refine hv.tuple? ?_
    walk_at "rdh"
    cases hv with
    | non =>
      refine r_iteT rfl ?_
      refine r_iteT rfl ?_
      exact k H (Same.refl _)
    | bl z =>
      refine r_iteT rfl ?_
      refine r_iteT rfl ?_
      exact k H (Same.refl _)
    | int z =>
      refine r_iteT rfl ?_
      refine r_iteT rfl ?_
      exact k H (Same.refl _)
    | str z =>
      refine r_iteT rfl ?_
      refine r_iteT rfl ?_
      exact k H (Same.refl _)
    | lst _ _ _ _ =>
      refine r_iteT rfl ?_
      refine r_iteT rfl ?_
      exact k H (Same.refl _)
    | dc0 _ =>
      refine r_iteT rfl ?_
      refine r_iteT rfl ?_
      exact k H (Same.refl _)
    | dc1 _ _ =>
      refine r_iteT rfl ?_
      refine r_iteT rfl ?_
      exact k H (Same.refl _)
    | @tup q vs ds hp hd =>
    have hlen := hd.len
    refine r_iteF rfl ?_
    walk_at "rdh"
    refine ⟨q, _, rfl, .inr (SqT.of hp), ?_⟩
    walk_at "rdh"
    refine r_ite (fun e => ?_) (fun e => ?_)
    · have g : goodS x y (.tuple ds) = false := by
        unfold goodS
        split
        · rename_i cc pp pap h
          injection h with h
          rw [h] at hlen
          rw [hlen] at e
          simp at e
        · rfl
      have := k H (Same.refl _)
      rw [g] at this
      exact this
    have e3 : vs.length = 3 := by
      have : (!decide ((vs.length : Int) = 3)) = false := e
      have z : (vs.length : Int) = 3 := by simpa using this
      omega
    cases hd with
    | nil => cases e3
    | @cons v0 x0 _ _ hv0 hd =>
    cases hd with
    | nil => cases e3
    | @cons v1 x1 _ _ hv1 hd =>
    cases hd with
    | nil => cases e3
    | @cons v2 x2 _ _ hv2 hd =>
    cases hd with
    | cons _ _ => simp at e3
    | nil =>
    walk_at "rdh"
    refine r_gTup hp rfl ?_
    walk_at "rdh"
    refine ⟨d, c, v0, x0, rfl, hv0, ?_⟩
    walk_at "rdh"
    refine r_ite (fun e => ?_) (fun e => ?_)
    · have g : goodS x y (.tuple [x0, x1, x2]) = false := by
        unfold goodS
        split
        · rename_i cc pp pap h
          injection h with h
          injection h with h0 h
          subst h0
          cases e
        · rfl
      refine r_iteT rfl ?_
      have := k H (Same.refl _)
      rw [g] at this
      exact this
    obtain ⟨cn, rfl⟩ : ∃ b, x0 = .int b := by cases x0 <;> first | exact ⟨_, rfl⟩ | cases e
    cases hv0
    walk_at "rdh"
    refine ⟨d, c, v1, x1, 0, 60, rfl, hv1, ?_⟩
    walk_at "rdh"
    refine r_ite (fun e => ?_) (fun e => ?_)
    · have g : goodS x y (.tuple [.int cn, x1, x2]) = false := by
        unfold goodS
        split
        · rename_i cc pp pap h
          injection h with h
          injection h with h0 h
          injection h with h1 h
          subst h1
          have e' : (decide (0 ≤ pp) && decide (pp ≤ 60)) = false := of_nt e
          rw [e']
          rfl
        · rfl
      have := k H (Same.refl _)
      rw [g] at this
      exact this
    obtain ⟨pl, rfl⟩ : ∃ b, x1 = .int b := by cases x1 <;> first | exact ⟨_, rfl⟩ | cases e
    have e' : (decide (0 ≤ pl) && decide (pl ≤ 60)) = true := of_nf e
    obtain ⟨pl0, pl1⟩ : 0 ≤ pl ∧ pl ≤ 60 := by simpa using e'
    cases hv1
    have cnb : cn.natAbs < 2 ^ 500 := by
      have : (decide (cn.natAbs < 2 ^ 500) && smAll [.int pl, x2]) = true := sm'
      rw [Bool.and_eq_true] at this
      exact of_decide_eq_true this.1
    have k1 : ∀ H' : Hp, Same H H' → Q (.bl (backQ cn pl x y && if pl = 0 then isNon x2 else goodP x y (pl - 1) x2)) H' := fun H' s => by
      have := k H' s
      have ee : goodS x y (.tuple [.int cn, .int pl, x2]) = ((decide (0 ≤ pl) && decide (pl ≤ 60)) && (backQ cn pl x y && if pl = 0 then isNon x2 else goodP x y (pl - 1) x2)) := rfl
      rw [ee, e', Bool.true_and] at this
      exact this
    walk_at "rdh"
    refine ⟨n, s', cn, pl, x, y, m, rfl, hn, hs, bx, by', y0, hm, cnb, by omega, fun H1 s1 => ?_⟩
    walk_at "rdh"
    refine r_ite (fun e => ?_) (fun e => ?_)
    · have e2 : backQ cn pl x y = false := of_nt e
      rw [e2, Bool.false_and] at k1
      exact k1 _ s1
    have e2 : backQ cn pl x y = true := of_nf e
    rw [e2, Bool.true_and] at k1
    walk_at "rdh"
    refine r_ite (fun e => ?_) (fun e => ?_)
    · rw [if_pos (of_decide_eq_true e)] at k1
      walk_at "rdh"
      refine r_isN (isNon_dec hv2) ?_
      exact k1 _ s1
    rw [if_neg (of_decide_eq_false e)] at k1
    walk_at "rdh"
    refine ⟨d, c, v2, x2, rfl, hv2.same s1, fun H2 s2 => ?_⟩
    have s12 := s1.trans s2
    walk_at "rdh"
    refine r_ite (fun e => ?_) (fun e => ?_)
    rotate_left
    · rw [goodP_pap e] at k1
      exact k1 _ s12
    obtain ⟨b, a, rfl⟩ : ∃ b a, x2 = .tuple [.int b, .int a] := by
      unfold isPap at e
      split at e
      · exact ⟨_, _, rfl⟩
      · cases e
    have k2 : ∀ H' : Hp, Same H H' → Q (.bl (decide ((b : Rat) < x * T10 (pl - 1)) && (decide (x * T10 (pl - 1) < (a : Rat)) && (!backQ b (pl - 1) x y && !backQ a (pl - 1) x y)))) H' := fun H' s => by
      have := k1 H' s
      have e1 : decide (a = b + 1) = true := e
      have ee : goodP x y (pl - 1) (.tuple [.int b, .int a]) = (decide (a = b + 1) && (decide ((b : Rat) < x * T10 (pl - 1)) && (decide (x * T10 (pl - 1) < (a : Rat)) && (!backQ b (pl - 1) x y && !backQ a (pl - 1) x y)))) := rfl
      rw [ee, e1, Bool.true_and] at this
      exact this
    obtain ⟨bb, ab⟩ : b.natAbs < 2 ^ 500 ∧ a.natAbs < 2 ^ 500 := by
      have : (decide (cn.natAbs < 2 ^ 500) && (decide (pl.natAbs < 2 ^ 500) && ((decide (b.natAbs < 2 ^ 500) && (decide (a.natAbs < 2 ^ 500) && true)) && true))) = true := sm'
      simp only [Bool.and_eq_true, decide_eq_true_eq, Bool.and_true] at this
      exact this.2.2
    walk_at "rdh"
    exact ⟨d, c, n, s', v2, b, a, pl - 1, x, y, m, rfl, hv2.same s12, hn.same s12, hs.same s12, bx, by', y0, hm, ab, bb, by omega, fun H3 s3 => k2 _ (s12.trans s3)⟩
end
end My

namespace My
open PySem L2
/-! ### how great such data is -/
mutual
def fnB (k : Nat) : PyData → Bool
  | .int i => decide (i.natAbs < 2 ^ k)
  | .str z => decide (z.cps.size ≤ 500) && z.cps.toList.all fun c => decide (c < 16 ^ 8)
  | .tuple ds => fnAll k ds
  | .list ds => fnAll k ds
  | .dict kvs => fnKv k kvs
  | _ => true
def fnAll (k : Nat) : List PyData → Bool
  | [] => true
  | d :: ds => fnB k d && fnAll k ds
def fnKv (k : Nat) : List (PyData × PyData) → Bool
  | [] => true
  | (a, b) :: r => fnB k a && fnB k b && fnKv k r
end
mutual
def szQ : PyData → Nat
  | .tuple ds => szQs ds
  | .list ds => szQs ds
  | .dict kvs => szQk kvs
  | _ => 0
def szQs : List PyData → Nat
  | [] => 0
  | d :: ds => szQ d + 1 + szQs ds
def szQk : List (PyData × PyData) → Nat
  | [] => 0
  | (a, b) :: r => szQ a + szQ b + 2 + szQk r
end
mutual
theorem fn_mono {k j : Nat} (h : k ≤ j) : ∀ d : PyData, fnB k d = true → fnB j d = true
  | .none, _ => rfl
  | .bool _, _ => rfl
  | .int i, e => by
    unfold fnB at e ⊢
    exact decide_eq_true (Nat.lt_of_lt_of_le (of_decide_eq_true e) (Nat.pow_le_pow_right (by decide) h))
  | .str z, e => by unfold fnB at e ⊢; exact e
  | .tuple ds, e => by unfold fnB at e ⊢; exact fn_monos h ds e
  | .list ds, e => by unfold fnB at e ⊢; exact fn_monos h ds e
  | .dict kvs, e => by unfold fnB at e ⊢; exact fn_monok h kvs e
theorem fn_monos {k j : Nat} (h : k ≤ j) : ∀ ds : List PyData, fnAll k ds = true → fnAll j ds = true
  | [], _ => rfl
  | d :: ds, e => by
    unfold fnAll at e ⊢
    rw [Bool.and_eq_true] at e ⊢
    exact ⟨fn_mono h d e.1, fn_monos h ds e.2⟩
theorem fn_monok {k j : Nat} (h : k ≤ j) : ∀ ds : List (PyData × PyData), fnKv k ds = true → fnKv j ds = true
  | [], _ => rfl
  | (a, b) :: r, e => by
    unfold fnKv at e ⊢
    rw [Bool.and_eq_true, Bool.and_eq_true] at e ⊢
    exact ⟨⟨fn_mono h a e.1.1, fn_mono h b e.1.2⟩, fn_monok h r e.2⟩
end
mutual
theorem fn_sm : ∀ d : PyData, fnB 500 d = true → sm d = true
  | .none, _ => rfl
  | .bool _, _ => rfl
  | .int i, e => by unfold fnB at e; unfold sm; exact e
  | .str z, e => rfl
  | .tuple ds, e => by unfold fnB at e; unfold sm; exact fn_sms ds e
  | .list ds, e => by unfold fnB at e; unfold sm; exact fn_sms ds e
  | .dict kvs, e => rfl
theorem fn_sms : ∀ ds : List PyData, fnAll 500 ds = true → smAll ds = true
  | [], _ => rfl
  | d :: ds, e => by
    unfold fnAll at e
    unfold smAll
    rw [Bool.and_eq_true] at e ⊢
    exact ⟨fn_sm d e.1, fn_sms ds e.2⟩
end
mutual
theorem fn_ok : ∀ d : PyData, fnB 500 d = true → d.showable = true ∧ d.leavesShort 501 = true ∧ d.weight ≤ 502 + 503 * szQ d
  | .none, _ => ⟨rfl, rfl, by simp [PyData.weight]⟩
  | .bool b, _ => ⟨rfl, rfl, by simp [PyData.weight]⟩
  | .int i, h => by
    have l : i.natAbs.log2 < 500 := PySem.Flt.log2_lt_of (by decide) (of_decide_eq_true (show decide (i.natAbs < 2 ^ 500) = true from by unfold fnB at h; exact h))
    refine ⟨?_, ?_, ?_⟩
    · simp only [PyData.showable, decide_eq_true_eq]; omega
    · simp only [PyData.leavesShort, decide_eq_true_eq]
      have e := PySem.int_text_length_le (k := 500) (by decide) l
      show (Str.ofString (toString i)).length ≤ 501
      rw [PySem.ofString_length]
      exact e
    · simp only [PyData.weight]
      split <;> omega
  | .str z, h => by
    have h' : decide (z.cps.size ≤ 500) = true ∧ (z.cps.toList.all fun c => decide (c < 16 ^ 8)) = true := by
      have : (decide (z.cps.size ≤ 500) && z.cps.toList.all fun c => decide (c < 16 ^ 8)) = true := by
        unfold fnB at h; exact h
      rw [Bool.and_eq_true] at this
      exact this
    refine ⟨rfl, h'.2, ?_⟩
    have := of_decide_eq_true h'.1
    show z.cps.size ≤ _
    omega
  | .tuple ds, h => by
    obtain ⟨a, c, d⟩ := fns_ok ds (by unfold fnB at h; exact h)
    refine ⟨a, c, ?_⟩
    show PyData.weightAll ds ≤ 502 + 503 * szQs ds
    omega
  | .list ds, h => by
    obtain ⟨a, c, d⟩ := fns_ok ds (by unfold fnB at h; exact h)
    refine ⟨a, c, ?_⟩
    show PyData.weightAll ds ≤ 502 + 503 * szQs ds
    omega
  | .dict kvs, h => by
    obtain ⟨a, c, d⟩ := fnk_ok kvs (by unfold fnB at h; exact h)
    refine ⟨a, c, ?_⟩
    show PyData.weightKv kvs ≤ 502 + 503 * szQk kvs
    omega
theorem fns_ok : ∀ ds : List PyData, fnAll 500 ds = true → PyData.showableAll ds = true ∧ PyData.leavesShortAll 501 ds = true ∧ PyData.weightAll ds ≤ 503 * szQs ds
  | [], _ => ⟨rfl, rfl, Nat.zero_le _⟩
  | d :: ds, h => by
    have h' : fnB 500 d = true ∧ fnAll 500 ds = true := by
      unfold fnAll at h
      rw [Bool.and_eq_true] at h
      exact h
    obtain ⟨a, c, e⟩ := fn_ok d h'.1
    obtain ⟨a', c', e'⟩ := fns_ok ds h'.2
    refine ⟨?_, ?_, ?_⟩
    · show (PyData.showable d && PyData.showableAll ds) = true
      rw [a, a']; rfl
    · show (PyData.leavesShort 501 d && PyData.leavesShortAll 501 ds) = true
      rw [c, c']; rfl
    · show PyData.weight d + 1 + PyData.weightAll ds ≤ 503 * (szQ d + 1 + szQs ds)
      omega
theorem fnk_ok : ∀ ds : List (PyData × PyData), fnKv 500 ds = true → PyData.showableKv ds = true ∧ PyData.leavesShortKv 501 ds = true ∧ PyData.weightKv ds ≤ 503 * szQk ds
  | [], _ => ⟨rfl, rfl, Nat.zero_le _⟩
  | (x, y) :: ds, h => by
    have h' : (fnB 500 x = true ∧ fnB 500 y = true) ∧ fnKv 500 ds = true := by
      unfold fnKv at h
      rw [Bool.and_eq_true, Bool.and_eq_true] at h
      exact h
    obtain ⟨a, c, e⟩ := fn_ok x h'.1.1
    obtain ⟨b, g, f⟩ := fn_ok y h'.1.2
    obtain ⟨a', c', e'⟩ := fnk_ok ds h'.2
    refine ⟨?_, ?_, ?_⟩
    · show (PyData.showable x && PyData.showable y && PyData.showableKv ds) = true
      rw [a, b, a']; rfl
    · show (PyData.leavesShort 501 x && PyData.leavesShort 501 y && PyData.leavesShortKv 501 ds) = true
      rw [c, g, c']; rfl
    · show PyData.weight x + PyData.weight y + 2 + PyData.weightKv ds ≤ 503 * (szQ x + szQ y + 2 + szQk ds)
      omega
end
theorem rd_reprQ {d c : Addr} {H : Hp} {v : V} {x : PyData} {Q : VK} (h : Dt d c H v x) (f : fnB 500 x = true) (s : szQ x ≤ 60) (dp : x.depth ≤ 60) (q : Q (.str x.shown) H) : rReprQ [v] H Q := by
  obtain ⟨a, e, g⟩ := fn_ok x f
  refine ⟨d, c, v, x, rfl, h, a, dp, ?_, q⟩
  have := PyData.shown_le 501 (by decide) x e
  have e : sizeLine = 16777216 := rfl
  omega
/-! ### parts of it -/
theorem fnAll_append (k : Nat) : ∀ a b : List PyData, fnAll k (a ++ b) = (fnAll k a && fnAll k b)
  | [], b => by rw [List.nil_append]; unfold fnAll; rfl
  | x :: a, b => by
    show (fnB k x && fnAll k (a ++ b)) = ((fnB k x && fnAll k a) && fnAll k b)
    rw [fnAll_append k a b, Bool.and_assoc]
theorem szQs_append : ∀ a b : List PyData, szQs (a ++ b) = szQs a + szQs b
  | [], b => by rw [List.nil_append]; show _ = 0 + _; omega
  | x :: a, b => by
    show szQ x + 1 + szQs (a ++ b) = szQ x + 1 + szQs a + szQs b
    rw [szQs_append a b]
    omega
theorem depthAll_append : ∀ a b : List PyData, PyData.depthAll (a ++ b) = max (PyData.depthAll a) (PyData.depthAll b)
  | [], b => by
    show _ = max 0 _
    rw [List.nil_append]
    omega
  | x :: a, b => by
    show max x.depth (PyData.depthAll (a ++ b)) = max (max x.depth (PyData.depthAll a)) (PyData.depthAll b)
    rw [depthAll_append a b]
    omega
/-- so great at most, a row of things -/
def Fs (k n m : Nat) (ds : List PyData) : Prop := fnAll k ds = true ∧ szQs ds ≤ n ∧ PyData.depthAll ds ≤ m
/-- so great at most, one thing -/
def Fi (k n m : Nat) (d : PyData) : Prop := fnB k d = true ∧ szQ d ≤ n ∧ d.depth ≤ m
theorem Fi.mono {k n m k' n' m' : Nat} {d : PyData} (h : Fi k n m d) (a : k ≤ k') (b : n ≤ n') (c : m ≤ m') : Fi k' n' m' d := ⟨fn_mono a d h.1, Nat.le_trans h.2.1 b, Nat.le_trans h.2.2 c⟩
theorem Fs.app {k n n' m : Nat} {a b : List PyData} (h : Fs k n m a) (g : Fs k n' m b) : Fs k (n + n') m (a ++ b) := by
  refine ⟨?_, ?_, ?_⟩
  · rw [fnAll_append, h.1, g.1]; rfl
  · rw [szQs_append]; have := h.2.1; have := g.2.1; omega
  · rw [depthAll_append]; have := h.2.2; have := g.2.2; omega
theorem Fs.mono {k n m n' m' : Nat} {d : List PyData} (h : Fs k n m d) (b : n ≤ n') (c : m ≤ m') : Fs k n' m' d := ⟨h.1, Nat.le_trans h.2.1 b, Nat.le_trans h.2.2 c⟩
theorem Fs.nil {k n m : Nat} : Fs k n m [] := ⟨rfl, Nat.zero_le _, Nat.zero_le _⟩
theorem Fs.one {k n m : Nat} {x : PyData} (h : Fi k n m x) : Fs k (n + 1) m [x] := ⟨by show (fnB k x && true) = true; rw [h.1]; rfl, by show szQ x + 1 + 0 ≤ _; have := h.2.1; omega, by show max x.depth 0 ≤ _; have := h.2.2; omega⟩
theorem Fs.cons {k n n' m : Nat} {x : PyData} {ds : List PyData} (h : Fi k n m x) (g : Fs k n' m ds) : Fs k (n + 1 + n') m (x :: ds) := (Fs.one h).app g
theorem Fs.fit {k n m : Nat} {ds : List PyData} (h : Fs k n m ds) {a b : List PyData} (e : ds = a ++ b) : ∃ i j, Fs k i m a ∧ Fs k j m b ∧ i + j ≤ n := by
  subst e
  obtain ⟨h1, h2, h3⟩ := h
  rw [fnAll_append, Bool.and_eq_true] at h1
  rw [szQs_append] at h2
  rw [depthAll_append] at h3
  exact ⟨szQs a, szQs b, ⟨h1.1, Nat.le_refl _, by omega⟩, ⟨h1.2, Nat.le_refl _, by omega⟩, h2⟩
theorem Fs.rev {k n m : Nat} : ∀ {ds : List PyData}, Fs k n m ds → Fs k n m ds.reverse
  | [], h => h
  | x :: ds, h => by
    obtain ⟨i, j, h1, h2, h3⟩ := Fs.fit (a := [x]) (b := ds) h rfl
    rw [List.reverse_cons]
    exact (h2.rev.app h1).mono (by omega) (Nat.le_refl _)
theorem Fs.tup {k n m : Nat} {ds : List PyData} (h : Fs k n m ds) : Fi k n (m + 1) (.tuple ds) := ⟨h.1, h.2.1, Nat.succ_le_succ h.2.2⟩
theorem Fs.lst {k n m : Nat} {ds : List PyData} (h : Fs k n m ds) : Fi k n (m + 1) (.list ds) := ⟨h.1, h.2.1, Nat.succ_le_succ h.2.2⟩
theorem Fi.parts {k n m : Nat} {ds : List PyData} (h : Fi k n m (.tuple ds)) : ∃ j, m = j + 1 ∧ Fs k n j ds := by
  obtain ⟨h1, h2, h3⟩ := h
  have h3' : PyData.depthAll ds + 1 ≤ m := h3
  exact ⟨m - 1, by omega, h1, h2, by omega⟩
theorem Fi.int {k n m : Nat} {i : Int} (h : i.natAbs < 2 ^ k) : Fi k n m (.int i) := ⟨decide_eq_true h, Nat.zero_le _, Nat.zero_le _⟩
theorem Fi.bl {k n m : Nat} {b : Bool} : Fi k n m (.bool b) := ⟨rfl, Nat.zero_le _, Nat.zero_le _⟩
theorem Fi.non {k n m : Nat} : Fi k n m .none := ⟨rfl, Nat.zero_le _, Nat.zero_le _⟩
theorem Fi.str {k n m : Nat} {z : Str} (h : (decide (z.cps.size ≤ 500) && z.cps.toList.all fun c => decide (c < 16 ^ 8)) = true) : Fi k n m (.str z) := ⟨by unfold fnB; exact h, Nat.zero_le _, Nat.zero_le _⟩
theorem Fi.dc0 {k n m : Nat} : Fi k n (m + 1) (.dict []) := ⟨rfl, Nat.zero_le _, Nat.succ_le_succ (Nat.zero_le _)⟩
theorem Fi.dc1 {k n m : Nat} {i : Int} {x : PyData} (hi : i.natAbs < 2 ^ k) (h : Fi k n m x) : Fi k (n + 2) (m + 1) (.dict [(.int i, x)]) := by
  refine ⟨?_, ?_, ?_⟩
  · show (fnB k (.int i) && fnB k x && true) = true
    rw [h.1, show fnB k (.int i) = true from decide_eq_true hi]; rfl
  · show 0 + szQ x + 2 + 0 ≤ _; have := h.2.1; omega
  · show max (max 0 x.depth) 0 + 1 ≤ m + 1; have := h.2.2; omega
theorem DtAll.app {d c : Addr} {H : Hp} : ∀ {vs ws : List V} {xs ys : List PyData}, DtAll d c H vs xs → DtAll d c H ws ys → DtAll d c H (vs ++ ws) (xs ++ ys)
  | _, _, _, _, .nil, g => g
  | _, _, _, _, .cons a b, g => .cons a (DtAll.app b g)
theorem DtAll.take {d c : Addr} {H : Hp} : ∀ {vs : List V} {xs : List PyData} (n : Nat), DtAll d c H vs xs → DtAll d c H (vs.take n) (xs.take n)
  | _, _, 0, _ => by rw [List.take_zero, List.take_zero]; exact .nil
  | _, _, n + 1, .nil => by rw [List.take_nil, List.take_nil]; exact .nil
  | _, _, n + 1, .cons a b => by rw [List.take_succ_cons, List.take_succ_cons]; exact .cons a (DtAll.take n b)
theorem DtAll.drop {d c : Addr} {H : Hp} : ∀ {vs : List V} {xs : List PyData} (n : Nat), DtAll d c H vs xs → DtAll d c H (vs.drop n) (xs.drop n)
  | _, _, 0, h => h
  | _, _, n + 1, .nil => by rw [List.drop_nil, List.drop_nil]; exact .nil
  | _, _, n + 1, .cons _ b => by rw [List.drop_succ_cons, List.drop_succ_cons]; exact DtAll.drop n b
theorem DtAll.rev {d c : Addr} {H : Hp} : ∀ {vs : List V} {xs : List PyData}, DtAll d c H vs xs → DtAll d c H vs.reverse xs.reverse
  | _, _, .nil => .nil
  | _, _, .cons a b => by rw [List.reverse_cons, List.reverse_cons]; exact DtAll.app (DtAll.rev b) (.cons a .nil)
theorem Dt.dc1n {d c : Addr} {H : Hp} {p : Addr} {i : Int} {v : V} {x : PyData} (hp : H p = none) (a : Dt d c H v x) : Dt d c (upd H p (.dK [(.inl i, v)])) (.ref p) (.dict [(.int i, x)]) := .dc1 upd_same (a.same (Same.new hp))
theorem cut_to {xs : List V} {n : Nat} : cutV xs none (some (n : Int)) = xs.take n := by
  unfold cutV
  rw [HT.sIx_none, HT.sIx_nat, List.drop_zero, Nat.sub_zero]
  by_cases h : n ≤ xs.length
  · rw [Nat.min_eq_left h]
  · rw [Nat.min_eq_right (by omega), List.take_of_length_le (Nat.le_refl _), List.take_of_length_le (by omega)]
theorem cut_from {xs : List V} {n : Nat} : cutV xs (some (n : Int)) none = xs.drop n := by
  unfold cutV
  rw [HT.sIx_none, HT.sIx_nat]
  by_cases h : n ≤ xs.length
  · rw [Nat.min_eq_left h, List.take_of_length_le (by rw [List.length_drop]; exact Nat.le_refl _)]
  · rw [Nat.min_eq_right (by omega), List.drop_eq_nil_of_le (Nat.le_refl _), List.drop_eq_nil_of_le (by omega : xs.length ≤ n), List.take_nil]
theorem cut_whole {xs : List V} {lo hi : Option Int} (h : HT.sIx xs.length 0 lo = 0 ∧ HT.sIx xs.length xs.length hi = xs.length) : cutV xs lo hi = xs := by
  unfold cutV
  rw [h.1, h.2, List.drop_zero, Nat.sub_zero, List.take_of_length_le (Nat.le_refl _)]
theorem r_cutT {K : PySem.W.Frag} {H : Hp} {a : Addr} {xs : List V} {lo hi : Option Int} {Q : VK} (h : H a = some (.tup xs)) (q : ∀ (b : Addr) (H' : Hp), Same H H' → H' b = some (.tup (cutV xs lo hi)) → Q (.ref b) H') : rSlA K (.ref a) lo hi H Q :=
  ⟨a, xs, rfl, SqT.of h, fun z => q a H (Same.refl _) (by rw [cut_whole z]; exact h), fun _ p hp => q p _ (Same.new hp) upd_same⟩
/-- a tuple of such data -/
def TpAt (d c : Addr) (H : Hp) (p : Addr) (ds : List PyData) : Prop := ∃ vs, H p = some (.tup vs) ∧ DtAll d c H vs ds
theorem TpAt.same {d c : Addr} {H H' : Hp} {p : Addr} {ds : List PyData} (s : Same H H') (h : TpAt d c H p ds) : TpAt d c H' p ds := let ⟨vs, a, b⟩ := h; ⟨vs, s _ _ a, b.same s⟩
theorem TpAt.off {d c : Addr} {H H' : Hp} {p : Addr} {ds : List PyData} (s : Off d c H H') (dk : DeckAt H d c) (h : TpAt d c H p ds) : TpAt d c H' p ds := let ⟨vs, a, b⟩ := h; ⟨vs, s.keep dk a (fun _ z => by cases z), b.off s dk⟩
theorem TpAt.dt {d c : Addr} {H : Hp} {p : Addr} {ds : List PyData} (h : TpAt d c H p ds) : Dt d c H (.ref p) (.tuple ds) := let ⟨_, a, b⟩ := h; .tup a b
theorem sl_to {d c : Addr} {K : PySem.W.Frag} {H : Hp} {a : Addr} {ds : List PyData} {n : Nat} {i : Int} {Q : VK} (h : TpAt d c H a ds) (e : i = (n : Int)) (q : ∀ (b : Addr) (H' : Hp), Same H H' → TpAt d c H' b (ds.take n) → Q (.ref b) H') : rSlA K (.ref a) none (some i) H Q := by
  obtain ⟨vs, hp, he⟩ := h
  subst e
  refine r_cutT hp fun b H' s hb => q b H' s ⟨_, hb, ?_⟩
  rw [cut_to]
  exact (he.same s).take n
theorem sl_from {d c : Addr} {K : PySem.W.Frag} {H : Hp} {a : Addr} {ds : List PyData} {n : Nat} {i : Int} {Q : VK} (h : TpAt d c H a ds) (e : i = (n : Int)) (q : ∀ (b : Addr) (H' : Hp), Same H H' → TpAt d c H' b (ds.drop n) → Q (.ref b) H') : rSlA K (.ref a) (some i) none H Q := by
  obtain ⟨vs, hp, he⟩ := h
  subst e
  refine r_cutT hp fun b H' s hb => q b H' s ⟨_, hb, ?_⟩
  rw [cut_from]
  exact (he.same s).drop n
theorem cat_t {d c : Addr} {K : PySem.W.Frag} {H : Hp} {a b : Addr} {es fs : List PyData} {Q : VK} (ha : TpAt d c H a es) (hb : TpAt d c H b fs) (n : es.length + fs.length ≤ 100) (q : ∀ (x : Addr) (H' : Hp), Same H H' → TpAt d c H' x (es ++ fs) → Q (.ref x) H') : rCatA K (.ref a) (.ref b) H Q := by
  obtain ⟨xs, h1, he⟩ := ha
  obtain ⟨ys, h2, hf⟩ := hb
  have l1 := he.len
  have l2 := hf.len
  have hap := he.app hf
  refine ⟨a, b, xs, ys, rfl, rfl, SqT.of h1, SqT.of h2, Nat.le_trans (show xs.length + ys.length ≤ 100 by omega) (by decide), fun e => ?_, fun _ e => ?_, fun _ _ p hp => ?_⟩
  · subst e
    cases he
    exact q b H (Same.refl _) ⟨_, h2, hf⟩
  · subst e
    cases hf
    rw [List.append_nil] at hap
    exact q a H (Same.refl _) ⟨_, h1, hap⟩
  · exact q p _ (Same.new hp) ⟨_, upd_same, hap.same (Same.new hp)⟩
theorem szQs_len : ∀ ds : List PyData, ds.length ≤ szQs ds
  | [] => Nat.le_refl _
  | d :: ds => by
    have := szQs_len ds
    show ds.length + 1 ≤ szQ d + 1 + szQs ds
    omega
end My

namespace My
open PySem PySem.Spec PyProof.Rows L2
/-! ### a tuple with something in it, turned about -/
section
variable {P : Program} {w : World} {A : Around} {E : Value → Shared → Prop} {s : Shared}
theorem filterMap_range {α : Type} {n : Nat} {f g : Nat → Option α} (h : ∀ k, k < n → f k = g k) : (List.range n).filterMap f = (List.range n).filterMap g := by
  induction n with
  | zero => rfl
  | succ n ih =>
    rw [List.range_succ, List.filterMap_append, List.filterMap_append, ih fun k hk => h k (by omega)]
    congr 1
    simp only [List.filterMap_cons, List.filterMap_nil, h n (by omega)]
theorem pick_rev (l : List Value) : ((List.range l.length).filterMap fun (k : Nat) => l.toArray[((l.length : Int) - 1 + (k : Int) * -1).toNat]?).toArray = l.reverse.toArray := by
  congr 1
  have e : (List.range l.length).filterMap (fun (k : Nat) => l.toArray[((l.length : Int) - 1 + (k : Int) * -1).toNat]?) = (List.range l.reverse.toArray.size).filterMap (l.reverse.toArray[·]?) := by
    rw [List.size_toArray, List.length_reverse]
    refine filterMap_range fun k hk => ?_
    rw [List.getElem?_toArray, List.getElem?_toArray, List.getElem?_reverse hk]
    congr 1
    omega
  rw [e, PySem.W.krv_all]
open PySem.HandSPX in
theorem get_revT {t sl : Addr} {l : List Value} {vs : Value} {Q : Value → Shared → Prop} (h0 : l ≠ []) (hz : l.length ≤ sizeLine) (ht : IsTup s.heap t l.toArray) (hs : s.heap.IsSliceOf sl .none .none vs) (ps : IsPart vs (some (-1)))
    (k : Q (.ref s.heap.objs.size) { s with heap := s.heap.push { cls := .type "tuple", data := .seq l.reverse.toArray } }) : wpAny (model P w) A (getItem (.ref t) (.ref sl)) Q E s := by
  obtain ⟨os, hos, hcs, hds⟩ := id hs
  have hTs : s.TypeIs (.ref sl) "slice" := ⟨os, hos, hcs⟩
  unfold getItem
  try with_reducible refine wpAny_holding ?_
  first | refine wpAny_bind (wpAny_pure ?_) | skip
  refine wpAny_bind (wpAny_sequenceKey ht.typeIs (by decide) (wpAny_bind ?_))
  refine wpAny_callSpecial?_slot (name := Str.ofString "__getitem__") ht.typeIs PyProof.Rows.slot_tuple_getitem ?_
  refine wpAny_call_entry PyProof.Rows.slot_tuple_getitem ht.typeIs entry_tuple_getitem ?_ (args_tuple_getitem _ _)
  show wpAny _ _ (Builtin.Tuple.tupleItemsOf (.ref t) >>= _) _ _ s
  refine wpAny_bind (tupleItemsOf_ ht (wpAny_bind (wpAny_typeOf hTs ?_)))
  rw [if_pos (by decide)]
  have n0 : 0 < l.length := by cases l with | nil => exact absurd rfl h0 | cons _ _ => exact Nat.succ_pos _
  have adj : ∀ n : Nat, 0 < n → Builtin.Slice.sliceAdjust none none (-1) (n : Int) = ((n : Int) - 1, -1) ∧ Builtin.Slice.slicePlaces ((n : Int) - 1) (-1) (-1) = n := fun n hn => by
    constructor
    · simp [Builtin.Slice.sliceAdjust]
    · unfold Builtin.Slice.slicePlaces
      rw [if_neg (by decide), if_pos (by omega)]
      have : (((n : Int) - 1 - -1 - 1) / (- -1)) = (n : Int) - 1 := by
        rw [show (- -1 : Int) = 1 by decide, Int.ediv_one]
        omega
      rw [this]
      omega
  have ap : ∀ {R : Int × Int × Nat → Shared → Prop}, R ((l.length : Int) - 1, -1, l.length) s → wpAny (model P w) A.in1 (Builtin.Slice.sliceApplied (.ref sl) (pure (l.toArray.size : Int))) R E s := fun {R} q => by
    unfold Builtin.Slice.sliceApplied Builtin.Slice.sliceFields
    refine wpAny_bind (wpAny_bind (wpAny_field hos hds (x := .none) rfl (wpAny_bind (wpAny_field hos hds (x := .none) rfl (wpAny_bind (wpAny_field hos hds (x := vs) rfl (wpAny_pure ?_)))))))
    refine wpAny_bind (HT.slicePart_ ps ?_)
    show wpAny _ _ (if ((-1 : Int) == 0) = true then _ else _) _ _ s
    rw [if_neg (by decide)]
    exact wpAny_bind (PyProof.Rows.slicePart_none (wpAny_bind (PyProof.Rows.slicePart_none (wpAny_bind (wpAny_pure (wpAny_pure (by
      have := (adj l.length n0).2
      simp only [List.size_toArray, Option.getD_some, if_pos (show (-1 : Int) < 0 by decide)]
      rw [this]
      exact q)))))))
  refine wpAny_bind (ap ?_)
  show wpAny _ _ (if (((l.length : Int) - 1) == 0 && (-1 : Int) == 1 && l.length == l.toArray.size) = true then _ else _) _ _ s
  rw [if_neg (by simp)]
  have pick := pick_rev l
  rw [pick]
  have sz : sizeOk (.seq l.reverse.toArray) := by
    show l.reverse.toArray.size ≤ sizeLine
    rw [List.size_toArray, List.length_reverse]
    exact hz
  first
    | exact wpAny_bind (m := Builtin.Tuple.tupleExact _) (wpAny_newObj_type (wpAny_pure ⟨_, rfl, wpAny_pure k⟩) sz)
    | exact wpAny_bind (m := Builtin.Tuple.tupleExact _) (wpAny_newObj_type (wpAny_bind (wpAny_pure (wpAny_pure ⟨_, rfl, wpAny_pure k⟩))) sz)
    | exact wpAny_bind (wpAny_bind (m := Builtin.Tuple.tupleExact _) (wpAny_newObj_type (wpAny_pure ⟨_, rfl, wpAny_pure k⟩) sz))
end
section
variable {X : Cx}
def tRevT (K : PySem.W.Frag) (te : TE) : TE := fun σ H Q => te σ H fun x H1 => ∃ a xs, x = .ref a ∧ SqT K H1 a xs ∧ xs ≠ [] ∧ ∀ p, H1 p = none → Q (.ref p) (upd H1 p (.tup xs.reverse))
theorem pe_revT {e : Expr} {te : TE} {k : Nat} {p1 p2 p3 pos : Pos} (he : PE X e te) : PE X (.Subscript e (.Slice none none (some (.UnaryOp .USub (.Constant (.int 1) k p1) p2)) p3) pos) (tRevT X.K te) := by
  refine ⟨fun pins s σ H Q I h => ?_⟩
  refine Subscript_ (thn (he.run pins s σ H _ I h) fun v s1 ⟨x, H1, I1, r1, a, xs, ex, hx, hne, q⟩ => ?_)
  subst ex
  cases r1
  have hst : PO X (some (.UnaryOp .USub (.Constant (.int 1) k p1) p2)) (tPart (tUn (rU fun i => .int (-i)) (tC (.int 1)))) := po_some (pe_un un_neg pe_int)
  refine wpAny_Slice (thn (po_none.run pins s1 σ H1 (fun o H2 => o = none ∧ H2 = H1) I1 ⟨rfl, rfl⟩) fun vl s2 ⟨l, H2, I2, pl, el, e2⟩ => ?_)
  subst el e2
  refine thn (po_none.run pins s2 σ H2 (fun o H3 => o = none ∧ H3 = H2) I2 ⟨rfl, rfl⟩) fun vu s3 ⟨u, H3, I3, pu, eu, e3⟩ => ?_
  subst eu e3
  refine thn (hst.run pins s3 σ H3 (fun o H4 => o = some (-1) ∧ H4 = H3) I3 ⟨1, rfl, -1, rfl, rfl, rfl⟩) fun vs s4 ⟨o, H4, I4, ps, eo, e4⟩ => ?_
  subst eo e4
  cases pl
  cases pu
  have I5 : Inv X pins σ H4 { s4 with heap := s4.heap.push { cls := .type "slice", data := .fields #[.none, .none, vs] } } := I4.kept (t' := s4.toks) fun b ob q => Heap.get?_push_of_some _ q
  obtain ⟨its, r, ht, hz⟩ := I5.tuple hx
  show wpAny (model X.prog X.w) X.A (subscriptTail e (.Slice none none (some (.UnaryOp .USub (.Constant (.int 1) k p1) p2)) p3) (.ref a) (.ref s4.heap.objs.size)) (EP X pins σ Q) X.xe { s4 with heap := s4.heap.push { cls := .type "slice", data := .fields #[.none, .none, vs] } }
  refine tail_any (ops := [.ref a, .ref s4.heap.objs.size]) ht.typeIs (PyProof.Rows.slot_tuple_getitem.lookup) ?_ (by with_unfolding_all rfl)
  refine get_revT ?_ (by rw [← r.length]; exact hz) ht (Heap.IsSliceOf.new _ .none .none vs) ps ?_
  · intro e
    subst e
    cases r
    exact hne rfl
  refine ⟨.ref _, _, I5.laid (t' := s4.toks) (o := .tup xs.reverse) (fun b ob q => Heap.get?_push_of_some _ q) (Nat.le_refl _) ?_, rfl, q _ (I5.hok.fresh (Nat.le_refl _))⟩
  exact ⟨by rw [List.length_reverse]; exact hz, _, r.reverse, ⟨_, Heap.get?_push_size _ rfl, rfl, _, rfl⟩⟩
theorem r_revT {K : PySem.W.Frag} {te : TE} {σ : L2.St} {H : Hp} {Q : VK} (q : te σ H fun x H1 => ∃ a xs, x = .ref a ∧ SqT K H1 a xs ∧ xs ≠ [] ∧ ∀ p, H1 p = none → Q (.ref p) (upd H1 p (.tup xs.reverse))) : tRevT K te σ H Q := q
end
end My

namespace My
open PySem L2
theorem atI_mem {α : Type} {xs : List α} {r : Int} (h0 : 0 ≤ r) (h1 : r < (xs.length : Int)) : ∃ v, atI xs r = some v ∧ v ∈ xs := by
  obtain ⟨n, rfl⟩ := Int.eq_ofNat_of_zero_le h0
  have hn : n < xs.length := by omega
  exact ⟨xs[n], atI_nat (List.getElem?_eq_getElem hn), List.getElem_mem hn⟩
theorem fresh_ne {H : Hp} {d c p : Addr} (h : DeckAt H d c) (hp : H p = none) : p ≠ d ∧ p ≠ c := by
  obtain ⟨_, _, _, h1, h2, _, _⟩ := h
  exact ⟨(ne_of_none h1 hp).symm, (ne_of_none h2 hp).symm⟩
theorem lt9000 {v : Int} (h : v.natAbs < 2 ^ 200) : v.natAbs < 2 ^ 9000 := Nat.lt_of_lt_of_le h (Nat.pow_le_pow_right (by decide) (by decide))
/-- a draw, as it is read -/
theorem rd_draw {H : Hp} {d c : Addr} {v : Int} {Q : VK} {E : XK} (dk : DeckAt H d c) (h0 : 0 < v) (h1 : v.natAbs < 2 ^ 200) (q : ∀ (r : Int) (H' : Hp), Off d c H H' → DeckAt H' d c → 0 ≤ r → r < v → Q (.int r) H') : spDraw ([V.ref d, V.int v] ++ []) H Q E :=
  ⟨d, c, v, rfl, dk, h0, lt9000 h1, q⟩
end My

namespace My
open PySem L2
/-! ### such data, made one after another -/
structure Rw (d c : Addr) (H0 H : Hp) (vs : List V) (xs : List PyData) : Prop where
  dk : DeckAt H d c
  all : DtAll d c H vs xs
  off : Off d c H0 H
section
variable {d c : Addr} {H0 H : Hp} {vs ws : List V} {xs ys : List PyData} {p : Addr}
theorem Rw.start (dk : DeckAt H d c) (a : DtAll d c H vs xs) : Rw d c H H vs xs := ⟨dk, a, Off.refl _ _ _⟩
theorem Rw.tup (r : Rw d c H0 H vs xs) (hp : H p = none) (a : DtAll d c H ws ys) : Rw d c H0 (upd H p (.tup ws)) (.ref p :: vs) (.tuple ys :: xs) :=
  ⟨r.dk.same (Same.new hp), .cons (.newT hp a) (r.all.same (Same.new hp)), r.off.trans (Off.of (Same.new hp))⟩
theorem Rw.lst (r : Rw d c H0 H vs xs) (hp : H p = none) (a : DtAll d c H ws ys) : Rw d c H0 (upd H p (.lst ws)) (.ref p :: vs) (.list ys :: xs) :=
  ⟨r.dk.same (Same.new hp), .cons (.newL hp (fresh_ne r.dk hp).1 (fresh_ne r.dk hp).2 a) (r.all.same (Same.new hp)), r.off.trans (Off.of (Same.new hp))⟩
theorem Rw.dc0 (r : Rw d c H0 H vs xs) (hp : H p = none) : Rw d c H0 (upd H p (.dK [])) (.ref p :: vs) (.dict [] :: xs) :=
  ⟨r.dk.same (Same.new hp), .cons (.dc0 upd_same) (r.all.same (Same.new hp)), r.off.trans (Off.of (Same.new hp))⟩
theorem Rw.dc1 (r : Rw d c H0 H vs xs) (hp : H p = none) {i : Int} {v : V} {x : PyData} (a : Dt d c H v x) : Rw d c H0 (upd (upd H p (.dK [])) p (.dK (mergeK [] [((.inl i : Key), v)]))) (.ref p :: vs) (.dict [(.int i, x)] :: xs) :=
  ⟨r.dk.same (Same.dict hp), .cons (.dc1 (v := v) upd_same (a.same (Same.dict hp))) (r.all.same (Same.dict hp)), r.off.trans (Off.of (Same.dict hp))⟩
/-- a list that holds the row -/
theorem Rw.keep (r : Rw d c H0 H vs xs) (hp : H p = none) {o : HO} : Rw d c H0 (upd H p o) vs xs :=
  ⟨r.dk.same (Same.new hp), r.all.same (Same.new hp), r.off.trans (Off.of (Same.new hp))⟩
theorem Rw.draw {H' : Hp} (r : Rw d c H0 H vs xs) (o : Off d c H H') (dk : DeckAt H' d c) : Rw d c H0 H' vs xs :=
  ⟨dk, r.all.off o r.dk, r.off.trans o⟩
theorem Rw.same {H' : Hp} (r : Rw d c H0 H vs xs) (s : Same H H') : Rw d c H0 H' vs xs := ⟨r.dk.same s, r.all.same s, r.off.trans (Off.of s)⟩
theorem Rw.nil (r : Rw d c H0 H vs xs) : DtAll d c H [] [] := .nil
end
theorem DtAll.hd {d c : Addr} {H : Hp} {v : V} {vs : List V} {x : PyData} {xs : List PyData} (a : DtAll d c H (v :: vs) (x :: xs)) : Dt d c H v x := by cases a; assumption
theorem DtAll.tl {d c : Addr} {H : Hp} {v : V} {vs : List V} {x : PyData} {xs : List PyData} (a : DtAll d c H (v :: vs) (x :: xs)) : DtAll d c H vs xs := by cases a; assumption
/-- at a place of a row -/
theorem DtAll.ati {d c : Addr} {H : Hp} {vs : List V} {xs : List PyData} {i : Int} (a : DtAll d c H vs xs) (i0 : 0 ≤ i) (i1 : i < (xs.length : Int)) : ∃ v x, atI vs i = some v ∧ x ∈ xs ∧ Dt d c H v x := by
  obtain ⟨n, rfl⟩ := Int.eq_ofNat_of_zero_le i0
  have hn : n < vs.length := by have := a.len; omega
  have av : vs[n]? = some vs[n] := List.getElem?_eq_getElem hn
  obtain ⟨x, hx, hd⟩ := a.get av
  exact ⟨vs[n], x, atI_nat av, List.mem_of_getElem? hx, hd⟩
end My

namespace My
open PySem L2
section
variable {P : Program} {w : World} {K : PySem.W.Frag} {mg : Str → Option Value} {base : Heap}
theorem r_dnewQ {σ : L2.St} {H : Hp} {Q : VK} (q : ∀ p, H p = none → Q (.ref p) (upd H p (.dK []))) : tDNewK σ H Q := q
def odds (x : PyData) : List PyData := [.none, .bool true, .bool false, .int 0, .int 1, .int (-1), .int 2, .int (10 ^ Int.toNat 39), .int (0 - 10 ^ Int.toNat 39), .str "", .str "1", .tuple [], .list [], .dict [], .tuple [.int 0, .int 1], .tuple [.int 0, .int 0, .none], .list [x]] ++ [.tuple [x], .dict [(.int 0, x)], .tuple [.int 1, .int 0]]
theorem odds_fit {k n m : Nat} {x : PyData} (h : Fi k n m x) (hk : 140 ≤ k) : ∀ y ∈ odds x, Fi k (2 * n + 3) (m + 1) y := by
  intro y hy
  have e39 : (10 : Int) ^ Int.toNat 39 = 1000000000000000000000000000000000000000 := rfl
  have kk : (2 : Nat) ^ 140 ≤ 2 ^ k := Nat.pow_le_pow_right (by decide) hk
  have sm : ∀ {i : Int} {n m : Nat}, i.natAbs < 2 ^ 140 → Fi k n m (.int i) := fun h => Fi.int (Nat.lt_of_lt_of_le h kk)
  have s1 : ∀ {n m : Nat} (i : Int), i.natAbs < 2 ^ 140 → Fs k (0 + 1) 0 [.int i] := fun i h => Fs.one (sm h)
  unfold odds at hy
  rw [e39] at hy
  simp only [List.mem_append, List.mem_cons, List.not_mem_nil, or_false] at hy
  rcases hy with (rfl | rfl | rfl | rfl | rfl | rfl | rfl | rfl | rfl | rfl | rfl | rfl | rfl | rfl | rfl | rfl | rfl) | rfl | rfl | rfl
  · exact Fi.non
  · exact Fi.bl
  · exact Fi.bl
  · exact sm (by decide)
  · exact sm (by decide)
  · exact sm (by decide)
  · exact sm (by decide)
  · exact sm (by decide)
  · exact sm (by decide)
  · exact Fi.str (by decide +kernel)
  · exact Fi.str (by decide +kernel)
  · exact (Fs.nil (k := k) (n := 0) (m := 0)).tup.mono (Nat.le_refl _) (by omega) (by omega)
  · exact (Fs.nil (k := k) (n := 0) (m := 0)).lst.mono (Nat.le_refl _) (by omega) (by omega)
  · exact (Fi.dc0 (k := k) (n := 0) (m := 0)).mono (Nat.le_refl _) (by omega) (by omega)
  · exact (Fs.cons (sm (n := 0) (m := 0) (by decide)) (Fs.one (sm (n := 0) (m := 0) (by decide)))).tup.mono (Nat.le_refl _) (by omega) (by omega)
  · exact (Fs.cons (sm (n := 0) (m := 0) (by decide)) (Fs.cons (sm (n := 0) (m := 0) (by decide)) (Fs.one (Fi.non (n := 0) (m := 0))))).tup.mono (Nat.le_refl _) (by omega) (by omega)
  · exact (Fs.one h).lst.mono (Nat.le_refl _) (by omega) (by omega)
  · exact (Fs.one h).tup.mono (Nat.le_refl _) (by omega) (by omega)
  · exact (Fi.dc1 (i := 0) (Nat.lt_of_lt_of_le (by decide) kk) h).mono (Nat.le_refl _) (by omega) (by omega)
  · exact (Fs.cons (sm (n := 0) (m := 0) (by decide)) (Fs.one (sm (n := 0) (m := 0) (by decide)))).tup.mono (Nat.le_refl _) (by omega) (by omega)
def spOdd : Sp := fun vs H Q _ => ∃ (d c : Addr) (v : V) (x : PyData) (k n m : Nat), vs = [.ref d, v] ∧ DeckAt H d c ∧ Dt d c H v x ∧ Fi k n m x ∧ 140 ≤ k ∧
  ∀ (v' : V) (x' : PyData) (H' : Hp), Off d c H H' → DeckAt H' d c → Dt d c H' v' x' → Fi k (2 * n + 3) (m + 1) x' → Q v' H'
theorem ok_l_odd (T : Txt w K mg) : FnOk P w K mg base CX0 2 T.f_l_odd T.fd_l_odd ["_law_deck_here", "_law_thing"] spOdd := by
  refine T.F_l_odd.ok sc_l_odd (fun vs H Q E h => ?_) (fun cdv A outer s H vs Q E hr h => ?_)
  · obtain ⟨d, c, v, x, k, n, m, rfl, _⟩ := h
    rfl
  · obtain ⟨d, c, v, x, k, n, m, rfl, dk, hv, hx, hk, q⟩ := h
    refine ⟨_, (pss_cons (ps_set (i := 2) sc_l_odd.nd rfl (Or.inl rfl) (pe_lst (pa_cons pe_non (pa_cons pe_bl (pa_cons pe_bl (pa_cons pe_int (pa_cons pe_int (pa_cons (pe_un un_neg pe_int) (pa_cons pe_int (pa_cons (pe_op op_pow pe_int pe_int) (pa_cons (pe_op op_sub pe_int (pe_op op_pow pe_int pe_int)) (pa_cons pe_str (pa_cons pe_str (pa_cons (pe_tup pa_nil) (pa_cons (pe_lst pa_nil) (pa_cons pe_dnewK (pa_cons (pe_tup (pa_cons pe_int (pa_cons pe_int pa_nil))) (pa_cons (pe_tup (pa_cons pe_int (pa_cons pe_int (pa_cons pe_non pa_nil)))) (pa_cons (pe_lst (pa_cons (pv 1) pa_nil)) pa_nil)))))))))))))))))))
 (pss_one (ps_ret (pe_ix ix_list (pe_op op_cat (pv 2) (pe_lst (pa_cons (pe_tup (pa_cons (pv 1) pa_nil)) (pa_cons (pe_disp (pps_cons pe_int (pv 1) pps_nil) rfl rfl (by simp) (by decide)) (pa_cons (pe_tup (pa_cons pe_int (pa_cons pe_int pa_nil))) pa_nil))))) (pe_call (ok_l_draw T) (hr.mono (by decide)) (by rfl) T.m_l_draw T.F_l_draw.kp T.b_l_draw .nil pass0 (pa_cons (pv 0) (pa_cons pe_int pa_nil))) (fun _ _ => rfl))))), ?_⟩
    have R0 : Rw d c H H [v] [x] := Rw.start dk (.cons hv .nil)
    walk_at "rdh"
    refine r_new (by show 0 ≤ 1000; decide) fun p1 q1 => ?_
    have R1 := R0.tup q1 .nil
    walk_at "rdh"
    refine r_new (by show 0 ≤ 1000; decide) fun p2 q2 => ?_
    have R2 := R1.lst q2 .nil
    walk_at "rdh"
    refine r_dnewQ fun p3 q3 => ?_
    have R3 := R2.dc0 q3
    walk_at "rdh"
    refine r_new (by show 2 ≤ 1000; decide) fun p4 q4 => ?_
    have R4 := R3.tup q4 (.cons (.int 0) (.cons (.int 1) .nil))
    walk_at "rdh"
    refine r_new (by show 3 ≤ 1000; decide) fun p5 q5 => ?_
    have R5 := R4.tup q5 (.cons (.int 0) (.cons (.int 0) (.cons .non .nil)))
    have hv5 := R5.all.tl.tl.tl.tl.tl.hd
    walk_at "rdh"
    refine r_new (by show 1 ≤ 1000; decide) fun p6 q6 => ?_
    have R6 := R5.lst q6 (.cons hv5 .nil)
    walk_at "rdh"
    refine r_new (by show 17 ≤ 1000; decide) fun l hl => ?_
    have R7 := R6.keep (o := .lst [.non, .bl true, .bl false, .int 0, .int 1, .int (-1), .int 2, .int (10 ^ Int.toNat 39), .int (0 - 10 ^ Int.toNat 39), .str "", .str "1", .ref p1, .ref p2, .ref p3, .ref p4, .ref p5, .ref p6]) hl
    have hv7 := R7.all.tl.tl.tl.tl.tl.tl.hd
    walk_at "rdh"
    refine r_new (by show 1 ≤ 1000; decide) fun p8 q8 => ?_
    have R8 := R7.tup q8 (.cons hv7 .nil)
    have hv8 := hv7.same (Same.new (o := .tup [v]) q8)
    walk_at "rdh"
    refine r_disp fun p9 q9 => ?_
    walk_at "rdh"
    refine ⟨upd_same, [((.inl 0 : Key), v)], rfl, by show 1 ≤ 15; decide, ?_⟩
    have R9 := R8.dc1 q9 (i := 0) hv8
    walk_at "rdh"
    refine r_new (by show 2 ≤ 1000; decide) fun p10 q10 => ?_
    have R10 := R9.tup q10 (.cons (.int 1) (.cons (.int 0) .nil))
    have L10 := (((Same.new (o := .tup [v]) q8).trans (Same.dict (o1 := .dK []) (o2 := .dK (mergeK [] [((.inl 0 : Key), v)])) q9)).trans (Same.new (o := .tup [.int 1, .int 0]) q10)) l _ upd_same
    walk_at "rdh"
    refine r_new (by show 3 ≤ 1000; decide) fun l2 hl2 => ?_
    have R11 := R10.keep (o := .lst [.ref p8, .ref p9, .ref p10]) hl2
    refine r_cat (Same.new hl2 _ _ L10) upd_same (by show 17 + 3 ≤ 100000; decide) fun f hf => ?_
    have R12 := R11.keep (o := .lst ([.non, .bl true, .bl false, .int 0, .int 1, .int (-1), .int 2, .int (10 ^ Int.toNat 39), .int (0 - 10 ^ Int.toNat 39), .str "", .str "1", .ref p1, .ref p2, .ref p3, .ref p4, .ref p5, .ref p6] ++ [.ref p8, .ref p9, .ref p10])) hf
    obtain ⟨f1, f2⟩ := fresh_ne R11.dk hf
    walk_at "rdh"
    refine rd_draw R12.dk (by decide) (by decide) fun i H2 o2 dk2 i0 i1 => ?_
    have hF := o2 f _ f1 f2 upd_same
    have R13 := R12.draw o2 dk2
    have AA : DtAll d c H2 ([.non, .bl true, .bl false, .int 0, .int 1, .int (-1), .int 2, .int (10 ^ Int.toNat 39), .int (0 - 10 ^ Int.toNat 39), .str "", .str "1", .ref p1, .ref p2, .ref p3, .ref p4, .ref p5, .ref p6] ++ [.ref p8, .ref p9, .ref p10]) (odds x) := by
      have b10 := R13.all
      have b9 := b10.tl
      have b8 := b9.tl
      have b6 := b8.tl
      have b5 := b6.tl
      have b4 := b5.tl
      have b3 := b4.tl
      have b2 := b3.tl
      have b1 := b2.tl
      exact .cons .non (.cons (.bl _) (.cons (.bl _) (.cons (.int _) (.cons (.int _) (.cons (.int _) (.cons (.int _) (.cons (.int _) (.cons (.int _) (.cons (.str _) (.cons (.str _) (.cons b1.hd (.cons b2.hd (.cons b3.hd (.cons b4.hd (.cons b5.hd (.cons b6.hd (.cons b8.hd (.cons b9.hd (.cons b10.hd .nil)))))))))))))))))))
    obtain ⟨y, z, ay, zm, hz⟩ := AA.ati i0 (by show i < 20; exact i1)
    refine r_ixL hF ay ?_
    exact q y z H2 R13.off dk2 hz (odds_fit hx hk z zm)
end
end My

namespace My
open PySem L2
theorem Fs.up {k k' n m n' m' : Nat} {d : List PyData} (h : Fs k n m d) (a : k ≤ k') (b : n ≤ n') (c : m ≤ m') : Fs k' n' m' d := ⟨fn_monos a d h.1, Nat.le_trans h.2.1 b, Nat.le_trans h.2.2 c⟩
theorem drop_at : ∀ {ds : List PyData} {a : Nat} {x : PyData}, ds[a]? = some x → ds.drop a = x :: ds.drop (a + 1) ∧ ds.take (a + 1) = ds.take a ++ [x]
  | [], a, x, h => by simp at h
  | d :: ds, 0, x, h => by
    have : d = x := by simpa using h
    subst this
    exact ⟨rfl, rfl⟩
  | d :: ds, a + 1, x, h => by
    rw [List.getElem?_cons_succ] at h
    obtain ⟨h1, h2⟩ := drop_at h
    refine ⟨by rw [List.drop_succ_cons, List.drop_succ_cons]; exact h1, ?_⟩
    rw [List.take_succ_cons, h2, List.take_succ_cons, List.cons_append]
theorem Fs.cut3 {k n m a : Nat} {ds : List PyData} {x : PyData} (h : Fs k n m ds) (hx : ds[a]? = some x) : ∃ i j l, Fs k i m (ds.take a) ∧ Fi k j m x ∧ Fs k l m (ds.drop (a + 1)) ∧ i + (j + 1) + l ≤ n := by
  obtain ⟨d1, _⟩ := drop_at hx
  obtain ⟨i, r, f1, f2, le⟩ := h.fit (List.take_append_drop a ds).symm
  rw [d1] at f2
  obtain ⟨j, l, g1, g2, le2⟩ := f2.fit (a := [x]) (b := ds.drop (a + 1)) rfl
  obtain ⟨e1, e2, e3⟩ := g1
  have e2' : szQ x + 1 + 0 ≤ j := e2
  have e3' : max x.depth 0 ≤ m := e3
  have e1' : (fnB k x && true) = true := e1
  refine ⟨i, szQ x, l, f1, ⟨by rw [Bool.and_true] at e1'; exact e1', Nat.le_refl _, by omega⟩, g2, by omega⟩
section
variable {P : Program} {w : World} {K : PySem.W.Frag} {mg : Str → Option Value} {base : Heap}
def spBent : Nat → Sp
  | 0 => fun _ _ _ _ => False
  | j + 1 => fun vs H Q _ => ∃ (d c : Addr) (v : V) (x : PyData) (h : Int) (k n m : Nat), vs = [.ref d, v, .int h] ∧ DeckAt H d c ∧ Dt d c H v x ∧ Fi k n m x ∧ (140 ≤ k ∧ k ≤ 415 ∧ n ≤ 25 ∧ m ≤ j ∧ 0 ≤ h ∧ h < 10) ∧
    ∀ (v' : V) (x' : PyData) (H' : Hp), Off d c H H' → DeckAt H' d c → Dt d c H' v' x' → Fi (k + 4) (2 * n + 3) (m + 1) x' → Q v' H'
theorem bent_at {j : Nat} {d c : Addr} {v : V} {x : PyData} {h : Int} {k n m : Nat} {H : Hp} {Q : VK} {E : XK} (dk : DeckAt H d c) (hv : Dt d c H v x) (hx : Fi k n m x) (b : 140 ≤ k ∧ k ≤ 415 ∧ n ≤ 25 ∧ m + 1 ≤ j ∧ 0 ≤ h ∧ h < 10)
    (q : ∀ (v' : V) (x' : PyData) (H' : Hp), Off d c H H' → DeckAt H' d c → Dt d c H' v' x' → Fi (k + 4) (2 * n + 3) (m + 1) x' → Q v' H') : spBent j [.ref d, v, .int h] H Q E := by
  cases j with
  | zero => exact absurd b.2.2.2.1 (by omega)
  | succ j => exact ⟨d, c, v, x, h, k, n, m, rfl, dk, hv, hx, ⟨b.1, b.2.1, b.2.2.1, by omega, b.2.2.2.2⟩, q⟩
theorem iv_of {d c : Addr} {H : Hp} {v : V} {x : PyData} {k n m : Nat} (hv : Dt d c H v x) (hx : Fi k n m x) (hk : 1 ≤ k) (e : isI x = true) : ∃ i, IV v i ∧ i.natAbs < 2 ^ k := by
  cases hv with
  | int i => exact ⟨i, .int i, of_decide_eq_true hx.1⟩
  | bl b =>
    refine ⟨_, .bl b, ?_⟩
    have : (2 : Nat) ^ 1 ≤ 2 ^ k := Nat.pow_le_pow_right (by decide) hk
    cases b <;> simp <;> omega
  | _ => cases e
theorem ok_l_bentN (T : Txt w K mg) : ∀ j, FnOk P w K mg base CX0 (j + 3) T.f_l_bent T.fd_l_bent ["_law_deck_here", "_law_thing", "_law_how"] (spBent j)
  | 0 => T.F_l_bent.ok sc_l_bent (fun vs H Q E h => (show False from h).elim) (fun cdv A outer s H vs Q E hr h => (show False from h).elim)
  | j + 1 => by
    have ih := ok_l_bentN T j
    refine T.F_l_bent.ok sc_l_bent (fun vs H Q E h => ?_) (fun cdv A outer s H vs Q E hr h => ?_)
    · obtain ⟨d, c, v, x, h, k, n, m, rfl, _⟩ := h
      rfl
    · obtain ⟨d, c, v, x, h, k, n, m, rfl, dk, hv, hx, ⟨k0, k1, n1, mj, h0, h1⟩, q⟩ := h
      refine ⟨_, (C8.pss_cut (ps_if (PW.pt (pw_and (pt_val (pe_callB call_isi (by rfl) T.n_isinstance (by decide +kernel) (pa_cons (pv 1) (pa_cons (pe_bltn (v := .ty "tuple") (by rfl) T.n_tuple (by decide +kernel) rfl) pa_nil)))) (pw_and (pt_cmpR (op_neNil hr.units) (pv 1) (pe_tup pa_nil) (nomark _)) (pw_and1 (pt_cmpR op_lt (pv 2) pe_int (nomark _))))))
  (pss_cons (ps_set (i := 3) sc_l_bent.nd rfl (Or.inl rfl) (pe_call (ok_l_draw T) (hr.mono (by omega)) (by rfl) T.m_l_draw T.F_l_draw.kp T.b_l_draw .nil pass0 (pa_cons (pv 0) (pa_cons (pe_callB call_len_seq (by rfl) T.n_len PySem.boot_len (pa_cons (pv 1) pa_nil)) pa_nil))))
 (pss_cons (ps_set (i := 4) sc_l_bent.nd rfl (Or.inl rfl) (pe_lst (pa_cons (pe_op op_catA (pe_slice sl_tupA (pv 1) po_none (po_some (pv 3))) (pe_slice sl_tupA (pv 1) (po_some (pe_op op_add (pv 3) pe_int)) po_none)) (pa_cons (pe_op op_catA (pe_slice sl_tupA (pv 1) po_none (po_some (pe_op op_add (pv 3) pe_int))) (pe_slice sl_tupA (pv 1) (po_some (pv 3)) po_none)) (pa_cons (pe_revT (pv 1)) (pa_cons (pe_callTy call_list_of (by rfl) T.n_list (by decide +kernel) (pa_cons (pv 1) pa_nil)) pa_nil))))))
 (pss_cons (ps_if (pt_cmpR op_lt (pv 2) pe_int (nomark _))
  (pss_one (ps_ret (pe_ix ix_list (pv 4) (pv 2) (fun _ _ => rfl))))
  pss_nil)
 (pss_cons (ps_set (i := 5) sc_l_bent.nd rfl (Or.inl rfl) (pe_call ((fun _ => ih) T) (hr.mono (by omega)) (by rfl) T.m_l_bent T.F_l_bent.kp T.b_l_bent .nil pass0 (pa_cons (pv 0) (pa_cons (pe_ix ix_tup (pv 1) (pv 3) (fun _ _ => rfl)) (pa_cons (pe_call (ok_l_draw T) (hr.mono (by omega)) (by rfl) T.m_l_draw T.F_l_draw.kp T.b_l_draw .nil pass0 (pa_cons (pv 0) (pa_cons pe_int pa_nil))) pa_nil)))))
 (pss_one (ps_ret (pe_op op_catA (pe_op op_catA (pe_slice sl_tupA (pv 1) po_none (po_some (pv 3))) (pe_tup (pa_cons (pv 5) pa_nil))) (pe_slice sl_tupA (pv 1) (po_some (pe_op op_add (pv 3) pe_int)) po_none))))))))
  pss_nil)
 (pss_cons (ps_if (PW.pt (pw_and (pt_val (pe_callB call_isi (by rfl) T.n_isinstance (by decide +kernel) (pa_cons (pv 1) (pa_cons (pe_bltn (v := .ty "int") (by rfl) T.n_int (by decide +kernel) rfl) pa_nil)))) (pw_and1 (pt_cmpR op_lt (pv 2) pe_int (nomark _)))))
  (pss_one (ps_ret (pe_ix ix_list (pe_lst (pa_cons (pe_op op_addB (pv 1) pe_int) (pa_cons (pe_op op_subB (pv 1) pe_int) (pa_cons (pe_op op_mulB' pe_int (pv 1)) (pa_cons (pe_op op_subB' pe_int (pv 1)) (pa_cons (pe_cmpR op_eqB (pv 1) pe_int (nomark _)) (pa_cons (pe_callTy call_strB (by rfl) T.n_str (by decide +kernel) (pa_cons (pv 1) pa_nil)) (pa_cons (pe_op op_addB (pv 1) pe_int) (pa_cons (pe_op op_fdivB (pv 1) pe_int) pa_nil))))))))) (pv 2) (fun _ _ => rfl))))
  pss_nil)
 (pss_one (ps_ret (pe_call (ok_l_odd T) (hr.mono (by omega)) (by rfl) T.m_l_odd T.F_l_odd.kp T.b_l_odd .nil pass0 (pa_cons (pv 0) (pa_cons (pv 1) pa_nil))))))), ?_⟩
      refine r_cut (fun σ' H' => σ' = [some (.ref d), some v, some (.int h), none, none, none] ∧ Same H H') ?_ ?_
      · walk_at "rdh"
        refine hv.tuple? ?_
        walk_at "rdh"
        refine r_ite (fun e => ?_) (fun e => ?_)
        rotate_left
        · walk_at "rdh"
          exact ⟨rfl, Same.refl _⟩
        cases hv with
        | non => cases e
        | bl z => cases e
        | int z => cases e
        | str z => cases e
        | lst _ _ _ _ => cases e
        | dc0 _ => cases e
        | dc1 _ _ => cases e
        | @tup p vs ds hp hd =>
          walk_at "rdh"
          refine r_new (by show 0 ≤ 1000; decide) fun p0 q0 => ?_
          have s0 := Same.new (o := .tup []) q0
          refine ⟨p, p0, vs, rfl, rfl, s0 _ _ hp, upd_same, ?_⟩
          walk_at "rdh"
          refine r_ite (fun e0 => ?_) (fun e0 => ?_)
          rotate_left
          · walk_at "rdh"
            exact ⟨rfl, s0⟩
          have vn : vs.length ≠ 0 := by
            intro z
            rw [decide_eq_true z] at e0
            cases e0
          walk_at "rdh"
          refine r_ite (fun e8 => ?_) (fun e8 => ?_)
          rotate_left
          · walk_at "rdh"
            exact ⟨rfl, s0⟩
          have h8 : h < 8 := of_decide_eq_true e8
          have hlen := hd.len
          obtain ⟨m, rfl, fs⟩ := hx.parts
          have dlen : ds.length ≤ 25 := by have := szQs_len ds; have := fs.2.1; omega
          have tp : TpAt d c H p ds := ⟨vs, hp, hd⟩
          have dk0 := dk.same s0
          walk_at "rdh"
          refine ⟨p, vs, rfl, .inr (SqT.of (s0 _ _ hp)), ?_⟩
          walk_at "rdh"
          refine rd_draw dk0 (by omega) (Nat.lt_of_lt_of_le (show ((vs.length : Int)).natAbs < 2 ^ 10 by omega) (by decide)) fun a H1 o1 dk1 a0 a1 => ?_
          obtain ⟨a, rfl⟩ := Int.eq_ofNat_of_zero_le a0
          have t1 : TpAt d c H1 p ds := (tp.same s0).off o1 dk0
          obtain ⟨x, hxa⟩ : ∃ x, ds[a]? = some x := ⟨ds[a]'(by omega), List.getElem?_eq_getElem (by omega)⟩
          obtain ⟨fi, fj, fl, f1, f2, f3, fle⟩ := fs.cut3 hxa
          obtain ⟨dr, tk⟩ := drop_at hxa
          walk_at "rdh"
          refine sl_to t1 rfl fun b1 H2 s2 u1 => ?_
          walk_at "rdh"
          refine sl_from (n := a + 1) (t1.same s2) (by omega) fun b2 H3 s3 u2 => ?_
          refine cat_t (u1.same s3) u2 (by rw [List.length_take, List.length_drop]; omega) fun b3 H4 s4 r1 => ?_
          have s24 := (s2.trans s3).trans s4
          walk_at "rdh"
          refine sl_to (n := a + 1) (t1.same s24) (by omega) fun b4 H5 s5 u4 => ?_
          walk_at "rdh"
          refine sl_from (t1.same (s24.trans s5)) rfl fun b5 H6 s6 u5 => ?_
          refine cat_t (u4.same s6) u5 (by rw [List.length_take, List.length_drop]; omega) fun b6 H7 s7 r2 => ?_
          have s27 := ((s24.trans s5).trans s6).trans s7
          walk_at "rdh"
          refine r_revT ?_
          walk_at "rdh"
          obtain ⟨ws, hw, hdw⟩ := t1.same s27
          have wlen := hdw.len
          refine ⟨p, ws, rfl, SqT.of hw, by intro z; subst z; simp at wlen; omega, fun p3 q3 => ?_⟩
          have s8 := Same.new (o := .tup ws.reverse) q3
          walk_at "rdh"
          refine ⟨p, ws, rfl, .inr (SqT.of (s8 _ _ hw)), fun l hl => ?_⟩
          have s9 := Same.new (o := .lst ws) hl
          have dk7 := dk1.same (s27.trans s8)
          walk_at "rdh"
          refine r_new (by show 4 ≤ 1000; decide) fun r hr' => ?_
          have s10 := Same.new (o := .lst [.ref b3, .ref b6, .ref p3, .ref l]) hr'
          have s1_10 := ((s27.trans s8).trans s9).trans s10
          have dk10 := dk1.same s1_10
          have t10 := t1.same s1_10
          have o10 := (Off.of s0).trans (o1.trans (Off.of s1_10))
          walk_at "rdh"
          refine r_ite (fun e4 => ?_) (fun e4 => ?_)
          · have h4 : h < 4 := of_decide_eq_true e4
            have AA : DtAll d c _ [.ref b3, .ref b6, .ref p3, .ref l] [.tuple (ds.take a ++ ds.drop (a + 1)), .tuple (ds.take (a + 1) ++ ds.drop a), .tuple ds.reverse, .list ds] :=
              .cons (r1.same (((((s5.trans s6).trans s7).trans s8).trans s9).trans s10)).dt (.cons (r2.same ((s8.trans s9).trans s10)).dt (.cons (((Dt.newT q3 hdw.rev).same s9).same s10) (.cons ((Dt.newL hl (fresh_ne dk7 hl).1 (fresh_ne dk7 hl).2 (hdw.same s8)).same s10) .nil)))
            obtain ⟨y, z, ay, zm, hz⟩ := AA.ati h0 (by show h < 4; exact h4)
            walk_at "rdh"
            refine r_ixL upd_same ay ?_
            refine q y z _ o10 dk10 hz ?_
            simp only [List.mem_cons, List.not_mem_nil, or_false] at zm
            rcases zm with rfl | rfl | rfl | rfl
            · exact (f1.app f3).tup.mono (by omega) (by omega) (by omega)
            · rw [tk, dr]
              exact (((f1.app (Fs.one f2)).app (Fs.cons f2 f3))).tup.mono (by omega) (by omega) (by omega)
            · exact fs.rev.tup.mono (by omega) (by omega) (by omega)
            · exact fs.lst.mono (by omega) (by omega) (by omega)
          · walk_at "rdh"
            obtain ⟨ws2, hw2, hdw2⟩ := t10
            have wlen2 := hdw2.len
            have av : ws2[a]? = some (ws2[a]'(by omega)) := List.getElem?_eq_getElem (by omega)
            obtain ⟨x', hx', dx⟩ := hdw2.get av
            have ex : x' = x := by rw [hxa] at hx'; exact (Option.some.inj hx').symm
            subst ex
            refine r_ixT hw2 (atI_nat av) ?_
            walk_at "rdh"
            refine rd_draw dk10 (by decide) (by decide) fun g H11 o11 dk11 g0 g1 => ?_
            walk_at "rdh"
            refine bent_at dk11 (dx.off o11 dk10) f2 ⟨k0, k1, by omega, by omega, g0, g1⟩ fun v' y H12 o12 dk12 hy fy => ?_
            have t12 : TpAt d c H12 p ds := ((t1.same s1_10).off o11 dk10).off o12 dk11
            walk_at "rdh"
            refine sl_to t12 rfl fun c1 H13 s13 u13 => ?_
            walk_at "rdh"
            refine r_new (by show 1 ≤ 1000; decide) fun c2 qc => ?_
            have sc := Same.new (o := .tup [v']) qc
            refine cat_t (u13.same sc) (fs := [y]) ⟨_, upd_same, .cons ((hy.same s13).same sc) .nil⟩ (by rw [List.length_take]; show min a ds.length + 1 ≤ 100; omega) fun c3 H14 s14 u14 => ?_
            walk_at "rdh"
            have s12_14 := (s13.trans sc).trans s14
            refine sl_from (n := a + 1) (t12.same s12_14) (by omega) fun c4 H15 s15 u15 => ?_
            refine cat_t (u14.same s15) u15 (by rw [List.length_append, List.length_take, List.length_drop]; show min a ds.length + 1 + _ ≤ 100; omega) fun c5 H16 s16 u16 => ?_
            refine q _ _ H16 ?_ (dk12.same ((s12_14.trans s15).trans s16)) u16.dt ?_
            · exact o10.trans (o11.trans (o12.trans (Off.of ((s12_14.trans s15).trans s16))))
            · exact (((f1.up (k' := k + 4) (by omega) (Nat.le_refl _) (show m ≤ m + 1 by omega)).app (Fs.one fy)).app (f3.up (by omega) (Nat.le_refl _) (by omega))).tup.mono (by omega) (by omega) (by omega)
      · rintro σ' H1 ⟨rfl, s1⟩
        have hv1 := hv.same s1
        have dk1 := dk.same s1
        have kk : (2 : Nat) ^ 140 ≤ 2 ^ k := Nat.pow_le_pow_right (by decide) k0
        have odd : ∀ H', Same H H' → spOdd [.ref d, v] H' Q E := fun H' s =>
          ⟨d, c, v, x, k, n, m, rfl, dk.same s, hv.same s, hx, k0, fun v' x' H2 o2 dk2 hz fz => q v' x' H2 ((Off.of s).trans o2) dk2 hz (fz.mono (by omega) (Nat.le_refl _) (Nat.le_refl _))⟩
        walk_at "rdh"
        refine hv1.int? ?_
        walk_at "rdh"
        refine r_ite (fun e => ?_) (fun e => ?_)
        rotate_left
        · refine r_iteF rfl ?_
          walk_at "rdh"
          exact odd H1 s1
        walk_at "rdh"
        refine r_ite (fun e8 => ?_) (fun e8 => ?_)
        rotate_left
        · walk_at "rdh"
          exact odd H1 s1
        have h8 : h < 8 := of_decide_eq_true e8
        obtain ⟨i, iv, ib⟩ := iv_of hv1 hx (by omega) e
        have kf : (2 : Nat) ^ (k + 4) = 2 ^ k * 16 := by rw [Nat.pow_add]
        walk_at "rdh"
        refine ⟨i, 1, iv, rfl, trivial, ?_⟩
        walk_at "rdh"
        refine ⟨i, 1, iv, rfl, trivial, ?_⟩
        walk_at "rdh"
        refine ⟨10, i, rfl, iv, .inl ⟨by decide, by decide⟩, ?_⟩
        walk_at "rdh"
        refine ⟨0, i, rfl, iv, trivial, ?_⟩
        walk_at "rdh"
        refine ⟨i, 1, iv, rfl, trivial, ?_⟩
        walk_at "rdh"
        refine ⟨v, i, rfl, iv, Nat.lt_of_lt_of_le ib (Nat.pow_le_pow_right (by decide) (by omega)), fun z hz => ?_⟩
        walk_at "rdh"
        refine ⟨i, 40, iv, rfl, trivial, ?_⟩
        walk_at "rdh"
        refine ⟨i, 10, iv, rfl, ⟨by decide, by decide⟩, ?_⟩
        walk_at "rdh"
        refine r_new (by show 8 ≤ 1000; decide) fun r hr' => ?_
        have s2 := Same.new (o := .lst [.int (i + 1), .int (i - 1), .int (10 * i), .int (0 - i), .bl (decide (i = 1)), .str z, .int (i + 40), .int (i / 10)]) hr'
        walk_at "rdh"
        have AA : DtAll d c (upd H1 r (.lst [.int (i + 1), .int (i - 1), .int (10 * i), .int (0 - i), .bl (decide (i = 1)), .str z, .int (i + 40), .int (i / 10)])) [.int (i + 1), .int (i - 1), .int (10 * i), .int (0 - i), .bl (decide (i = 1)), .str z, .int (i + 40), .int (i / 10)]
            [.int (i + 1), .int (i - 1), .int (10 * i), .int (0 - i), .bool (decide (i = 1)), .str z, .int (i + 40), .int (i / 10)] :=
          .cons (.int _) (.cons (.int _) (.cons (.int _) (.cons (.int _) (.cons (.bl _) (.cons (.str _) (.cons (.int _) (.cons (.int _) .nil)))))))
        obtain ⟨y, u, ay, um, hu⟩ := AA.ati h0 (by show h < 8; exact h8)
        refine r_ixL upd_same ay ?_
        refine q y u _ (Off.of (s1.trans s2)) (dk1.same s2) hu ?_
        have b40 : (2 : Nat) ^ 140 = 1393796574908163946345982392040522594123776 := by decide
        rw [b40] at kk
        simp only [List.mem_cons, List.not_mem_nil, or_false] at um
        rcases um with rfl | rfl | rfl | rfl | rfl | rfl | rfl | rfl
        · exact Fi.int (by rw [kf]; omega)
        · exact Fi.int (by rw [kf]; omega)
        · exact Fi.int (by rw [kf]; omega)
        · exact Fi.int (by rw [kf]; omega)
        · exact Fi.bl
        · exact Fi.str hz
        · exact Fi.int (by rw [kf]; omega)
        · exact Fi.int (by rw [kf]; omega)
theorem ok_l_bent (T : Txt w K mg) : FnOk P w K mg base CX0 12 T.f_l_bent T.fd_l_bent ["_law_deck_here", "_law_thing", "_law_how"] (spBent 9) := ok_l_bentN T 9
end
end My

namespace My
open PySem L2
section
variable {P : Program} {w : World} {K : PySem.W.Frag} {mg : Str → Option Value} {base : Heap}
def spGreater (C : Addr) : Sp := fun vs H Q _ => ∃ (l : Int) (pp : Addr) (q : Rat), vs = [.int l, .ref pp] ∧ NumAt C H pp q ∧ Q (.bl (decide ((q.den : Int) < 2 * q.num))) H
theorem ok_is_greater_nearer (T : Txt w K mg) : FnOk P w K mg base CX0 1 T.f_is_greater_nearer T.fd_is_greater_nearer ["count", "part"] (spGreater T.C_Number) := by
  refine T.F_is_greater_nearer.ok sc_is_greater_nearer (fun vs H Q E h => ?_) (fun cdv A outer s H vs Q E hr h => ?_)
  · obtain ⟨l, pp, q, rfl, _⟩ := h
    rfl
  · obtain ⟨l, pp, q, rfl, ⟨dx, hp⟩, k⟩ := h
    have cN := T.c_Number
    have nT := T.n_Number_top
    have nB := T.n_Number_bottom
    refine ⟨_, (pss_one (ps_ret (pe_cmpR op_gt (pe_op op_mul pe_int (pe_fld (pv 1) rfl)) (pe_fld (pv 1) rfl) (nomark _)))), ?_⟩
    walk_at "rdf"
    exact k
/-- the paper by the function that takes the nearer one -/
def spPaperF (C f : Addr) : Sp := fun vs H Q _ => ∃ (p s : Addr) (x y : Rat), vs = [.ref p, .ref s, .ref f] ∧ NumAt C H p x ∧ NumAt C H s y ∧ Bd 900 x ∧ Bd 900 y ∧ y ≠ 0 ∧
  ∀ (t : Addr) (H' : Hp), Same H H' → H' t = some (.tup [.int (x / y).floor, .int (highQ (x / y)), .int (nearL (x / y))]) → Q (.ref t) H'
theorem ok_round_paperF (T : Txt w K mg) : FnOk P w K mg base CX0 5 T.f_round_paper T.fd_round_paper ["number", "step", "way"] (spPaperF T.C_Number T.f_is_greater_nearer) := by
  refine T.F_round_paper.ok sc_round_paper (fun vs H Q E h => ?_) (fun cdv A outer s H vs Q E hr h => ?_)
  · obtain ⟨p, q, x, y, rfl, _⟩ := h
    rfl
  · obtain ⟨p, q, x, y, rfl, hp, hq, bx, by', y0, k⟩ := h
    have Fr := ok_is_greater_nearer (P := P) (base := base) T
    have kr := T.F_is_greater_nearer.kp
    have br := T.b_is_greater_nearer
    refine ⟨_, (pss_cons (ps_asg (pe_call (ok_place_of T) (hr.mono (by decide)) (by rfl) T.m_place_of T.F_place_of.kp T.b_place_of .nil pass0 (pa_cons (pv 0) (pa_cons (pv 1) pa_nil))) (pg_tup rfl (pgs_cons (pg_name (i := 3) sc_round_paper.nd rfl (Or.inl rfl)) (pgs_cons (pg_name (i := 4) sc_round_paper.nd rfl (Or.inl rfl)) (pgs_cons (pg_name (i := 5) sc_round_paper.nd rfl (Or.inl rfl)) pgs_nil)))))
 (pss_cons (ps_if (pt_cmpR op_eq (pv 3) (pv 4) (nomark _))
  (pss_one (ps_ret (pe_tup (pa_cons (pv 3) (pa_cons (pv 4) (pa_cons (pv 3) pa_nil))))))
  pss_nil)
 (pss_cons (ps_set (i := 6) sc_round_paper.nd rfl (Or.inl rfl) (pv 2))
 (pss_cons (ps_if (pt_val (pe_callB call_isiF (by rfl) T.n_isinstance (by decide +kernel) (pa_cons (pv 2) (pa_cons (pe_bltn (v := .ty "str") (by rfl) T.n_str (by decide +kernel) rfl) pa_nil))))
  (pss_one (ps_set (i := 6) sc_round_paper.nd rfl (Or.inl rfl) (pe_ix ix_kdict (pe_glob (v := .ref T.D_RULES) (by rfl) T.m_RULES rfl) (pv 2) (fun _ _ => rfl))))
  pss_nil)
 (pss_cons (ps_if (pt_cmpR op_isBl (pe_callL (i := 6) Fr (hr.mono (by decide)) rfl (Or.inl rfl) kr br .nil pass0 (pa_cons (pv 3) (pa_cons (pv 5) pa_nil))) pe_bl (nomark _))
  (pss_one (ps_ret (pe_tup (pa_cons (pv 3) (pa_cons (pv 4) (pa_cons (pv 4) pa_nil))))))
  pss_nil)
 (pss_one (ps_ret (pe_tup (pa_cons (pv 3) (pa_cons (pv 4) (pa_cons (pv 3) pa_nil))))))))))), ?_⟩
    walk_at "rd"
    refine ⟨p, q, x, y, rfl, hp, hq, bx, by', y0, fun t pp H1 s1 h1 hpp => ?_⟩
    refine ⟨t, _, rfl, SqT.of h1, rfl, _, _, rfl, ?_⟩
    walk_at "rd"
    refine ⟨_, _, rfl, ?_⟩
    walk_at "rd"
    refine ⟨_, _, rfl, ?_⟩
    walk_at "rd"
    refine ⟨rfl, ?_⟩
    walk_at "rd"
    refine r_ite (fun e => ?_) (fun e => ?_)
    · walk_at "rd"
      refine r_new (by show 3 ≤ 1000; decide) fun t2 ht => ?_
      have e1 := highQ_eq.mp (of_decide_eq_true e)
      have e2 : nearL (x / y) = (x / y).floor := by unfold nearL; rw [if_pos e1]
      exact k t2 _ (s1.trans (Same.new ht)) (by rw [upd_same, e2])
    · have e1 : ¬ (partQ (x / y)).num = 0 := fun z => of_decide_eq_false e (highQ_eq.mpr z)
      have e3 : highQ (x / y) = (x / y).floor + 1 := by unfold highQ; rw [if_neg e1]
      walk_at "rd"
      refine fun_str T.fo_is_greater_nearer ?_
      walk_at "rd"
      refine r_iteF rfl ?_
      walk_at "rd"
      refine ⟨rfl, ?_⟩
      walk_at "rd"
      refine ⟨_, pp, partQ (x / y), rfl, hpp, ?_⟩
      walk_at "rd"
      refine ⟨_, _, rfl, rfl, ?_⟩
      walk_at "rd"
      refine r_ite (fun z => ?_) (fun z => ?_)
      · have z' : ((partQ (x / y)).den : Int) < 2 * (partQ (x / y)).num := of_decide_eq_true (of_decide_eq_true z)
        walk_at "rd"
        refine r_new (by show 3 ≤ 1000; decide) fun t2 ht => ?_
        have e2 : nearL (x / y) = highQ (x / y) := by unfold nearL; rw [if_neg e1, if_pos z', e3]
        exact k t2 _ (s1.trans (Same.new ht)) (by rw [upd_same, e2])
      · have z' : ¬ ((partQ (x / y)).den : Int) < 2 * (partQ (x / y)).num := fun q => of_decide_eq_false z (decide_eq_true q)
        walk_at "rd"
        refine r_new (by show 3 ≤ 1000; decide) fun t2 ht => ?_
        have e2 : nearL (x / y) = (x / y).floor := by unfold nearL; rw [if_neg e1, if_neg z']
        exact k t2 _ (s1.trans (Same.new ht)) (by rw [upd_same, e2])
theorem nearL_bd {n : Nat} {x : Rat} (h : Bd n x) : (nearL x).natAbs < 2 ^ (n + 1) := by
  have b := floor_bd h
  rw [Nat.pow_succ]
  unfold nearL
  split
  · omega
  · split <;> omega
/-- the nearest count of so many places -/
def spNearest (C : Addr) : Sp := fun vs H Q _ => ∃ (a : Addr) (x : Rat) (p : Int), vs = [.ref a, .int p] ∧ NumAt C H a x ∧ Bd 400 x ∧ p.natAbs ≤ 100 ∧ ∀ H' : Hp, Same H H' → Q (.int (nearL (x * T10 p))) H'
theorem div_one (x : Rat) : x / ((1 : Int) : Rat) = x := by
  have : ((1 : Int) : Rat) = 1 := rfl
  rw [this]; grind
theorem one_ne : ((1 : Int) : Rat) ≠ 0 := by decide
theorem bd_one : Bd 1 ((1 : Int) : Rat) := ⟨by decide, by decide⟩
theorem ok_nearest (T : Txt w K mg) : FnOk P w K mg base CX0 6 T.f_nearest T.fd_nearest ["number", "places"] (spNearest T.C_Number) := by
  refine T.F_nearest.ok sc_nearest (fun vs H Q E h => ?_) (fun cdv A outer s H vs Q E hr h => ?_)
  · obtain ⟨a, x, p, rfl, _⟩ := h
    rfl
  · obtain ⟨a, x, p, rfl, ⟨dx, ha⟩, bx, hp, k⟩ := h
    refine ⟨_, (pss_one (ps_ret (pe_ix ix_tup (pe_callN (ok_round_paperF T) (hr.mono (by decide)) (by rfl) T.m_round_paper T.F_round_paper.kp T.kb_round_paper pass0 (pa_cons (pe_meth (pv 0) T.c_Number T.me_Number_times (ok_Number_times T) (hr.mono (by decide)) T.b_Number_times .nil pass0 (pa_cons (pe_call (ok_ten_to T) (hr.mono (by decide)) (by rfl) T.m_ten_to T.F_ten_to.kp T.b_ten_to .nil pass0 (pa_cons (pv 1) pa_nil)) pa_nil)) (pa_cons (pe_make T.mk_Number (ok_Number_init T) (hr.mono (by decide)) (by rfl) T.m_Number T.b_Number_init1 T.d_Number_init1 pass0 (pa_cons pe_int pa_nil)) pa_nil)) (pk_cons (pe_glob (v := .ref T.f_is_greater_nearer) (by rfl) T.m_is_greater_nearer rfl) pk_nil)) pe_int (fun _ _ => rfl)))), ?_⟩
    have bt : Bd 401 (T10 p) := T10_bd (k := 100) hp
    walk_at "rdg"
    refine r_meth1 ha (no_times _) ?_
    walk_at "rdg"
    refine ⟨p, rfl, by omega, fun t H1 s1 n1 h1 => ?_⟩
    walk_at "rdg"
    refine ⟨a, t, x, T10 p, rfl, ⟨_, s1 _ _ ha⟩, h1, bx.mono (by decide), bt.mono (by decide), trivial, fun u H2 s2 n2 h2 => ?_⟩
    walk_at "rdg"
    refine mk_num1 fun o H3 s3 n3 h3 => ?_
    walk_at "rdg"
    refine ⟨rfl, rfl, u, o, x * T10 p, _, rfl, h2.same s3, h3, (bx.mul bt).mono (by decide), bd_one.mono (by decide), one_ne, fun r H4 s4 h4 => ?_⟩
    rw [div_one] at h4
    refine r_ixT h4 (atI_nat (j := 2) rfl) ?_
    exact k _ (((s1.trans s2).trans s3).trans s4)
/-- whether the nearest one leads back -/
def spLeads (C : Addr) : Sp := fun vs H Q _ => ∃ (a s : Addr) (x y : Rat) (p : Int), vs = [.ref a, .ref s, .int p] ∧ NumAt C H a x ∧ NumAt C H s y ∧ Bd 200 x ∧ Bd 300 y ∧ 0 < y ∧ p.natAbs ≤ 50 ∧ ∀ H' : Hp, Same H H' → Q (.bl (lbQ x y p)) H'
theorem ok_leads_back_shortest (T : Txt w K mg) : FnOk P w K mg base CX0 7 T.f_leads_back_shortest T.fd_leads_back_shortest ["number", "step", "places"] (spLeads T.C_Number) := by
  refine T.F_leads_back_shortest.ok sc_leads_back_shortest (fun vs H Q E h => ?_) (fun cdv A outer s H vs Q E hr h => ?_)
  · obtain ⟨a, s, x, y, p, rfl, _⟩ := h
    rfl
  · obtain ⟨a, s', x, y, p, rfl, ⟨dx, ha⟩, ⟨dy, hs⟩, bx, by', y0, hp, k⟩ := h
    refine ⟨_, (pss_cons (ps_set (i := 3) sc_leads_back_shortest.nd rfl (Or.inl rfl) (pe_meth (pe_make T.mk_Number (ok_Number_init T) (hr.mono (by decide)) (by rfl) T.m_Number T.b_Number_init1 T.d_Number_init1 pass0 (pa_cons (pe_call (ok_nearest T) (hr.mono (by decide)) (by rfl) T.m_nearest T.F_nearest.kp T.b_nearest .nil pass0 (pa_cons (pv 0) (pa_cons (pv 2) pa_nil))) pa_nil)) T.c_Number T.me_Number_times (ok_Number_times T) (hr.mono (by decide)) T.b_Number_times .nil pass0 (pa_cons (pe_call (ok_ten_to T) (hr.mono (by decide)) (by rfl) T.m_ten_to T.F_ten_to.kp T.b_ten_to .nil pass0 (pa_cons (pe_un un_neg (pv 2)) pa_nil)) pa_nil)))
 (pss_one (ps_ret (pe_cmpR (op_eqOwn (ok_Number_eq T) T.me_Number_eq.at_ T.me_Number_eq.fn T.b_Number_eq (hr.mono (by decide))) (pe_call (ok_rounded T) (hr.mono (by decide)) (by rfl) T.m_rounded T.F_rounded.kp T.b_rounded T.d_rounded pass0 (pa_cons (pv 3) (pa_cons (pv 1) pa_nil))) (pv 0) (nomark _))))), ?_⟩
    have bt : Bd 201 (T10 p) := T10_bd (k := 50) hp
    have bt' : Bd 201 (T10 (-p)) := T10_bd (k := 50) (by omega)
    have bn : Bd 402 ((nearL (x * T10 p) : Int) : Rat) := Bd.int (nearL_bd (bx.mul bt)) (by decide)
    walk_at "rdg"
    refine ⟨a, x, p, rfl, ⟨_, ha⟩, bx.mono (by decide), by omega, fun H1 s1 => ?_⟩
    walk_at "rdg"
    refine mk_num1 fun n H2 s2 n2 h2 => ?_
    obtain ⟨dn, hn⟩ := h2
    refine r_meth1 hn (no_times _) ?_
    walk_at "rdg"
    refine ⟨-p, rfl, by omega, fun t H3 s3 n3 h3 => ?_⟩
    walk_at "rdg"
    refine ⟨n, t, _, T10 (-p), rfl, ⟨_, s3 _ _ hn⟩, h3, bn.mono (by decide), bt'.mono (by decide), trivial, fun u H4 s4 n4 h4 => ?_⟩
    have s14 := ((s1.trans s2).trans s3).trans s4
    walk_at "rdg"
    refine ⟨u, s', _, y, .heven, rfl, h4, ⟨_, s14 _ _ hs⟩, (bn.mul bt').mono (by decide), by'.mono (by decide), by grind, fun r H5 s5 h5 => ?_⟩
    walk_at "rdg"
    exact r_eqNum h5 ⟨_, s5 _ _ (s14 _ _ ha)⟩ (k _ (s14.trans s5))
/-- as few places as can be -/
def spFew (C : Addr) : Sp := fun vs H Q _ => ∃ (a s : Addr) (x y : Rat) (m e : Int), vs = [.ref a, .ref s] ∧ NumAt C H a x ∧ NumAt C H s y ∧ Bd 200 x ∧ Bd 300 y ∧ 0 < y ∧ x = (m : Rat) * y ∧ Pow e y ∧ e.natAbs ≤ 50 ∧ ∀ (p : Int) (H' : Hp), Same H H' → Fewest x y p → p ≤ 50 → Q (.int p) H'
theorem ok_fewest_places (T : Txt w K mg) : FnOk P w K mg base CX0 8 T.f_fewest_places T.fd_fewest_places ["number", "step"] (spFew T.C_Number) := by
  refine T.F_fewest_places.ok sc_fewest_places (fun vs H Q E h => ?_) (fun cdv A outer s H vs Q E hr h => ?_)
  · obtain ⟨a, s, x, y, m, e, rfl, _⟩ := h
    rfl
  · obtain ⟨a, s', x, y, m, e, rfl, ⟨dx, ha⟩, ⟨dy, hs⟩, bx, by', y0, hm, he, eb, k⟩ := h
    refine ⟨_, (pss_cons (ps_set (i := 2) sc_fewest_places.nd rfl (Or.inl rfl) pe_int)
 (pss_cons (ps_set (i := 3) sc_fewest_places.nd rfl (Or.inl rfl) (pe_callB (call_max2 rfl) (by rfl) T.n_max (by decide +kernel) (pa_cons pe_int (pa_cons (pe_un un_neg (pe_call (ok_power_of T) (hr.mono (by decide)) (by rfl) T.m_power_of T.F_power_of.kp T.b_power_of .nil pass0 (pa_cons (pv 1) pa_nil))) pa_nil))))
 (pss_cons (ps_while PassesOwn.never (pt_cmpR op_lt (pv 2) (pv 3) (nomark _))
  (pss_cons (ps_set (i := 4) sc_fewest_places.nd rfl (Or.inl rfl) (pe_op op_fdiv (pe_op op_add (pv 2) (pv 3)) pe_int))
 (pss_one (ps_if (pt_val (pe_call (ok_leads_back_shortest T) (hr.mono (by decide)) (by rfl) T.m_leads_back_shortest T.F_leads_back_shortest.kp T.b_leads_back_shortest .nil pass0 (pa_cons (pv 0) (pa_cons (pv 1) (pa_cons (pv 4) pa_nil)))))
  (pss_one (ps_set (i := 3) sc_fewest_places.nd rfl (Or.inl rfl) (pv 4)))
  (pss_one (ps_set (i := 2) sc_fewest_places.nd rfl (Or.inl rfl) (pe_op op_add (pv 4) pe_int)))))))
 (pss_one (ps_ret (pv 2)))))), ?_⟩
    have top := lb_power y0 hm he
    walk_at "rdg"
    refine ⟨s', y, e, rfl, ⟨_, hs⟩, by'.mono (by decide), he, by omega, fun H1 s1 => ?_⟩
    walk_at "rdg"
    refine ⟨_, _, rfl, ?_⟩
    walk_at "rdg"
    generalize hM : (if -e > 0 then -e else (0 : Int)) = M
    have hM' : (if 0 < -e then -e else (0 : Int)) = M := hM
    rw [hM'] at top
    have M0 : 0 ≤ M ∧ M ≤ 50 := by rw [← hM]; split <;> omega
    refine ⟨fun mm σ H' => ∃ (l t : Int) (v : Option V), σ = [some (.ref a), some (.ref s'), some (.int l), some (.int t), v] ∧ Same H1 H' ∧ 0 ≤ l ∧ l ≤ t ∧ t ≤ 50 ∧ lbQ x y t = true ∧ (∀ p, 0 ≤ p → p < l → lbQ x y p = false) ∧ mm = (t - l).toNat, ⟨_, 0, M, none, rfl, Same.refl _, by omega, M0.1, M0.2, top, fun p p0 p1 => by omega, rfl⟩, ?_⟩
    rintro mm σ H2 ⟨l, t, v, rfl, s2, l0, lt, t50, lb, nb, rfl⟩
    walk_at "rdg"
    refine r_ite (fun q => ?_) (fun q => ?_)
    · have q' : l < t := of_decide_eq_true q
      refine ⟨fun σ' H' => ∃ (l' t' : Int) (v : Option V), σ' = [some (.ref a), some (.ref s'), some (.int l'), some (.int t'), v] ∧ Same H1 H' ∧ 0 ≤ l' ∧ l' ≤ t' ∧ t' ≤ 50 ∧ lbQ x y t' = true ∧ (∀ p, 0 ≤ p → p < l' → lbQ x y p = false) ∧ (t' - l').toNat < (t - l).toNat, ?_, ?_⟩
      · rintro σ' H' ⟨l', t', v', e1, e2, e3, e4, e5, e6, e7, e8⟩
        exact ⟨_, e8, l', t', v', e1, e2, e3, e4, e5, e6, e7, rfl⟩
      · walk_at "rdg"
        refine ⟨a, s', x, y, (l + t) / 2, rfl, ⟨_, s2 _ _ (s1 _ _ ha)⟩, ⟨_, s2 _ _ (s1 _ _ hs)⟩, bx, by', y0, by omega, fun H3 s3 => ?_⟩
        walk_at "rdg"
        refine r_ite (fun z => ?_) (fun z => ?_)
        · walk_at "rdg"
          exact ⟨_, _, _, rfl, s2.trans s3, l0, by omega, by omega, z, nb, by omega⟩
        · walk_at "rdg"
          refine ⟨_, _, _, rfl, s2.trans s3, by omega, by omega, t50, lb, fun p p0 p1 => ?_, by omega⟩
          cases zz : lbQ x y p with
          | false => rfl
          | true =>
            have := lb_mono y0 hm (show p ≤ (l + t) / 2 by omega) zz
            rw [this] at z
            cases z
    · have q' : ¬ l < t := of_decide_eq_false q
      have e : l = t := by omega
      subst e
      walk_at "rdg"
      exact k l _ (s1.trans s2) ⟨l0, lb, nb⟩ t50
/-- the triple's last -/
def PaperAt (H : Hp) (v : V) (p : Int) (b : Int) : Prop := (p = 0 ∧ v = .non) ∨ (p ≠ 0 ∧ ∃ q, v = .ref q ∧ H q = some (.tup [.int b, .int (b + 1)]))
def spShort (C : Addr) : Sp := fun vs H Q _ => ∃ (a s : Addr) (x y : Rat) (m e : Int), vs = [.ref a, .ref s] ∧ NumAt C H a x ∧ NumAt C H s y ∧ Bd 200 x ∧ Bd 300 y ∧ 0 < y ∧ x = (m : Rat) * y ∧ Pow e y ∧ e.natAbs ≤ 50 ∧
  ∀ (t : Addr) (p : Int) (v : V) (H' : Hp), Same H H' → Fewest x y p → p ≤ 50 → H' t = some (.tup [.int (nearL (x * T10 p)), .int p, v]) → PaperAt H' v p (x * T10 (p - 1)).floor → Q (.ref t) H'
theorem ok_shortest (T : Txt w K mg) : FnOk P w K mg base CX0 9 T.f_shortest T.fd_shortest ["number", "step"] (spShort T.C_Number) := by
  refine T.F_shortest.ok sc_shortest (fun vs H Q E h => ?_) (fun cdv A outer s H vs Q E hr h => ?_)
  · obtain ⟨a, s, x, y, m, e, rfl, _⟩ := h
    rfl
  · obtain ⟨a, s', x, y, m, e, rfl, ⟨dx, ha⟩, ⟨dy, hs⟩, bx, by', y0, hm, he, eb, k⟩ := h
    refine ⟨_, (pss_cons (ps_set (i := 2) sc_shortest.nd rfl (Or.inl rfl) (pe_call (ok_fewest_places T) (hr.mono (by decide)) (by rfl) T.m_fewest_places T.F_fewest_places.kp T.b_fewest_places .nil pass0 (pa_cons (pv 0) (pa_cons (pv 1) pa_nil))))
 (pss_cons (ps_set (i := 3) sc_shortest.nd rfl (Or.inl rfl) (pe_call (ok_nearest T) (hr.mono (by decide)) (by rfl) T.m_nearest T.F_nearest.kp T.b_nearest .nil pass0 (pa_cons (pv 0) (pa_cons (pv 2) pa_nil))))
 (pss_cons (ps_if (pt_cmpR op_eq (pv 2) pe_int (nomark _))
  (pss_one (ps_ret (pe_tup (pa_cons (pv 3) (pa_cons pe_int (pa_cons pe_non pa_nil))))))
  pss_nil)
 (pss_cons (ps_set (i := 4) sc_shortest.nd rfl (Or.inl rfl) (pe_meth0 (pe_meth (pv 0) T.c_Number T.me_Number_times (ok_Number_times T) (hr.mono (by decide)) T.b_Number_times .nil pass0 (pa_cons (pe_call (ok_ten_to T) (hr.mono (by decide)) (by rfl) T.m_ten_to T.F_ten_to.kp T.b_ten_to .nil pass0 (pa_cons (pe_op op_sub (pv 2) pe_int) pa_nil)) pa_nil)) T.c_Number T.me_Number_floor (ok_Number_floor T) (hr.mono (by decide)) T.b_Number_floor .nil pass0))
 (pss_one (ps_ret (pe_tup (pa_cons (pv 3) (pa_cons (pv 2) (pa_cons (pe_tup (pa_cons (pv 4) (pa_cons (pe_op op_add (pv 4) pe_int) pa_nil))) pa_nil)))))))))), ?_⟩
    walk_at "rdg"
    refine ⟨a, s', x, y, m, e, rfl, ⟨_, ha⟩, ⟨_, hs⟩, bx, by', y0, hm, he, eb, fun p H1 s1 hF p50 => ?_⟩
    have p0 := hF.1
    walk_at "rdg"
    refine ⟨a, x, p, rfl, ⟨_, s1 _ _ ha⟩, bx.mono (by decide), by omega, fun H2 s2 => ?_⟩
    have s12 := s1.trans s2
    walk_at "rdg"
    refine r_ite (fun z => ?_) (fun z => ?_)
    · have z' : p = 0 := of_decide_eq_true z
      walk_at "rdg"
      refine r_new (by show 3 ≤ 1000; decide) fun t ht => ?_
      exact k t p .non _ (s12.trans (Same.new ht)) hF p50 (by rw [upd_same, z']) (.inl ⟨z', rfl⟩)
    · have z' : ¬ p = 0 := of_decide_eq_false z
      walk_at "rdg"
      refine r_meth1 (s12 _ _ ha) (no_times _) ?_
      walk_at "rdg"
      refine ⟨p - 1, rfl, by omega, fun t H3 s3 n3 h3 => ?_⟩
      have bt : Bd 401 (T10 (p - 1)) := T10_bd (k := 100) (by omega)
      walk_at "rdg"
      refine ⟨a, t, x, T10 (p - 1), rfl, ⟨_, s3 _ _ (s12 _ _ ha)⟩, h3, bx.mono (by decide), bt.mono (by decide), trivial, fun u H4 s4 n4 h4 => ?_⟩
      obtain ⟨du, hu⟩ := h4
      refine r_meth1 hu (no_floor _) ?_
      walk_at "rdg"
      refine ⟨u, _, rfl, ⟨_, hu⟩, (bx.mul bt).mono (by decide), ?_⟩
      walk_at "rdg"
      refine r_new (by show 2 ≤ 1000; decide) fun q hq => ?_
      walk_at "rdg"
      refine r_new (by show 3 ≤ 1000; decide) fun r hr' => ?_
      refine k r p (.ref q) _ ((((s12.trans s3).trans s4).trans (Same.new hq)).trans (Same.new hr')) hF p50 upd_same (.inr ⟨z', q, rfl, ?_⟩)
      exact Same.new hr' _ _ upd_same
end
end My

namespace My
open PySem L2
/-! ### the told triple is let by, others aren't -/
def papD (x : Rat) (p : Int) : PyData := if p = 0 then .none else .tuple [.int (x * T10 (p - 1)).floor, .int ((x * T10 (p - 1)).floor + 1)]
theorem PaperAt.dt {d c : Addr} {H : Hp} {v : V} {p : Int} {x : Rat} (h : PaperAt H v p (x * T10 (p - 1)).floor) : Dt d c H v (papD x p) := by
  unfold papD
  rcases h with ⟨h, rfl⟩ | ⟨h, q, rfl, hq⟩
  · rw [if_pos h]; exact .non
  · rw [if_neg h]; exact .tup hq (.cons (.int _) (.cons (.int _) .nil))
theorem PaperAt.same {H H' : Hp} {v : V} {p b : Int} (s : Same H H') (h : PaperAt H v p b) : PaperAt H' v p b := by
  rcases h with h | ⟨h, q, e, hq⟩
  · exact .inl h
  · exact .inr ⟨h, q, e, s _ _ hq⟩
theorem not_back {c p m : Int} {x y : Rat} (hy : 0 < y) (hx : x = (m : Rat) * y) (h : lbQ x y p = false) : backQ c p x y = false := by
  cases e : backQ c p x y with
  | false => rfl
  | true => rw [lb_of_back hy hx e] at h; cases h
theorem good_short {x y : Rat} {p m : Int} (hy : 0 < y) (hx : x = (m : Rat) * y) (h : Fewest x y p) (p60 : p ≤ 60) : goodS x y (.tuple [.int (nearL (x * T10 p)), .int p, papD x p]) = true := by
  have ee : goodS x y (.tuple [.int (nearL (x * T10 p)), .int p, papD x p]) = ((decide (0 ≤ p) && decide (p ≤ 60)) && (backQ (nearL (x * T10 p)) p x y && if p = 0 then isNon (papD x p) else goodP x y (p - 1) (papD x p))) := rfl
  have lb : backQ (nearL (x * T10 p)) p x y = true := h.2.1
  rw [ee, decide_eq_true h.1, decide_eq_true p60, lb]
  simp only [Bool.true_and]
  by_cases z : p = 0
  · rw [if_pos z]
    unfold papD
    rw [if_pos z]
    rfl
  · rw [if_neg z]
    have nb := h.2.2 (p - 1) (by have := h.1; omega) (by omega)
    unfold papD
    rw [if_neg z]
    generalize hu : x * T10 (p - 1) = u at *
    have a := Rat.floor_le u
    have b := Rat.lt_floor_add_one u
    have ne : (u.floor : Rat) ≠ u := by
      intro e
      have : backQ u.floor (p - 1) x y = true := by
        rw [backQ_iff hy hx, off_scale, hu, e]
        left
        have e0 : u - u = 0 := by grind
        rw [e0, absQ_eq, if_pos (by decide +kernel)]
        grind
      rw [not_back hy hx nb] at this
      cases this
    have eg : goodP x y (p - 1) (.tuple [.int u.floor, .int (u.floor + 1)]) = (decide (u.floor + 1 = u.floor + 1) && (decide ((u.floor : Rat) < x * T10 (p - 1)) && (decide (x * T10 (p - 1) < ((u.floor + 1 : Int) : Rat)) && (!backQ u.floor (p - 1) x y && !backQ (u.floor + 1) (p - 1) x y)))) := rfl
    rw [eg, hu, decide_eq_true rfl, decide_eq_true (show (u.floor : Rat) < u by grind), decide_eq_true b, not_back hy hx nb, not_back hy hx nb]
    rfl
theorem far_short {x y : Rat} {p m c f : Int} (hy : 0 < y) (hx : x = (m : Rat) * y) (h : Fewest x y p) (p50 : p ≤ 50) (hf : f = 60 ∨ f = 61) : goodS x y (.tuple [.int c, .int f, papD x p]) = false := by
  have ee : goodS x y (.tuple [.int c, .int f, papD x p]) = ((decide (0 ≤ f) && decide (f ≤ 60)) && (backQ c f x y && if f = 0 then isNon (papD x p) else goodP x y (f - 1) (papD x p))) := rfl
  rw [ee]
  rcases hf with rfl | rfl
  · have key : goodP x y (60 - 1) (papD x p) = false := by
      unfold papD
      split
      · rfl
      · generalize (x * T10 (p - 1)).floor = b
        have eg : goodP x y (60 - 1) (.tuple [.int b, .int (b + 1)]) = (decide (b + 1 = b + 1) && (decide ((b : Rat) < x * T10 (60 - 1)) && (decide (x * T10 (60 - 1) < ((b + 1 : Int) : Rat)) && (!backQ b (60 - 1) x y && !backQ (b + 1) (60 - 1) x y)))) := rfl
        rw [eg]
        by_cases h1 : (b : Rat) < x * T10 (60 - 1)
        · by_cases h2 : x * T10 (60 - 1) < ((b + 1 : Int) : Rat)
          · have lb := lb_mono hy hx (show p ≤ 60 - 1 by omega) h.2.1
            obtain ⟨n1, n2⟩ := nearL_is (x * T10 (60 - 1))
            unfold lbQ at lb
            generalize nearL (x * T10 (60 - 1)) = t at *
            rw [Rat.intCast_add] at h2
            have e1 : ((1 : Int) : Rat) = 1 := rfl
            have t1 : t < b + 1 + 1 := Rat.intCast_lt_intCast.mp (by rw [Rat.intCast_add, Rat.intCast_add]; grind)
            have t2 : b < t + 1 := Rat.intCast_lt_intCast.mp (by rw [Rat.intCast_add]; grind)
            have : t = b ∨ t = b + 1 := by omega
            rcases this with rfl | rfl
            · rw [lb]; simp
            · rw [lb]; simp
          · rw [decide_eq_false h2]; simp
        · rw [decide_eq_false h1]; simp
    rw [if_neg (by decide), key]
    simp
  · rw [decide_eq_false (show ¬ (61 : Int) ≤ 60 by decide)]
    simp
theorem dL_neg (x : Rat) (p : Int) : dL (-x) p = dL x p := by
  have le : ∀ z : Rat, dL (-z) p ≤ dL z p := fun z => by
    have := dL_best (-z) p (-nearL (z * T10 p))
    have e : absQ (((-nearL (z * T10 p) : Int) : Rat) * T10 (-p) - -z) = dL z p := by
      unfold dL
      rw [← absQ_neg]
      congr 1
      rw [Rat.intCast_neg]
      grind
    rw [e] at this
    exact this
  have a := le x
  have b := le (-x)
  rw [Rat.neg_neg] at b
  exact Rat.le_antisymm a b
theorem backQ_neg {c p m : Int} {x y : Rat} (hy : 0 < y) (hx : x = (m : Rat) * y) : backQ (-c) p (-x) y = backQ c p x y := by
  have hx' : -x = ((-m : Int) : Rat) * y := by rw [Rat.intCast_neg, hx]; grind
  rw [Bool.eq_iff_iff, backQ_iff hy hx', backQ_iff hy hx]
  have e : absQ (((-c : Int) : Rat) * T10 (-p) - -x) = absQ ((c : Rat) * T10 (-p) - x) := by
    rw [← absQ_neg]
    congr 1
    rw [Rat.intCast_neg]
    grind
  rw [e]
  unfold okd
  have : -m % 2 = 0 ↔ m % 2 = 0 := by omega
  rw [this]
theorem lbQ_neg {p m : Int} {x y : Rat} (hy : 0 < y) (hx : x = (m : Rat) * y) : lbQ (-x) y p = lbQ x y p := by
  have hx' : -x = ((-m : Int) : Rat) * y := by rw [Rat.intCast_neg, hx]; grind
  rw [Bool.eq_iff_iff, lbQ_iff hy hx', lbQ_iff hy hx, dL_neg]
  unfold okd
  have : -m % 2 = 0 ↔ m % 2 = 0 := by omega
  rw [this]
theorem Fewest.uniq {x y : Rat} {p q : Int} (h : Fewest x y p) (g : Fewest x y q) : p = q := by
  rcases Int.lt_trichotomy p q with l | l | l
  · have := g.2.2 p h.1 l
    rw [h.2.1] at this
    cases this
  · exact l
  · have := h.2.2 q g.1 l
    rw [g.2.1] at this
    cases this
theorem Fewest.of_neg {p m : Int} {x y : Rat} (hy : 0 < y) (hx : x = (m : Rat) * y) (h : Fewest (-x) y p) : Fewest x y p := by
  obtain ⟨a, b, c⟩ := h
  rw [lbQ_neg hy hx] at b
  exact ⟨a, b, fun q q0 q1 => by have := c q q0 q1; rw [lbQ_neg hy hx] at this; exact this⟩
/-- the border of what leads back -/
theorem border {m : Int} {x y : Rat} (hy : 0 < y) (hx : x = (m : Rat) * y) : decide (y * (takenQ .heven ((x + y / 2) / y) : Rat) = x) = decide (m % 2 = 0) := by
  have e : (x + y / 2) / y = (m : Rat) + 1 / 2 := by rw [hx]; grind
  rw [e, taken_mid rfl, decide_eq_decide]
  have tu : tieUp .heven m = decide (m % 2 = 1) := rfl
  rw [tu]
  by_cases z : m % 2 = 1
  · rw [if_pos (decide_eq_true z), Rat.intCast_add, hx]
    have : ((1 : Int) : Rat) = 1 := rfl
    constructor
    · intro h; exfalso; grind
    · omega
  · rw [if_neg (by simpa using z), hx]
    constructor
    · intro; omega
    · intro; grind
end My

namespace My
open PySem L2
section
variable {P : Program} {w : World} {K : PySem.W.Frag} {mg : Str → Option Value} {base : Heap}
theorem tens_ne (n : Nat) : (10 : Int) ^ n ≠ 0 := Int.pow_ne_zero (by decide)
theorem tens_pos (n : Nat) : (0 : Int) < (10 : Int) ^ n := Int.pow_pos (by decide)
theorem tens_bd {n k : Nat} (h : n ≤ k) : ((10 : Int) ^ n).natAbs < 2 ^ (4 * k + 1) := Nat.lt_of_lt_of_le (pow10_lt n) (Nat.pow_le_pow_right (by decide) (by omega))
/-- so many over a power of ten -/
theorem over_tens (c : Int) {p : Int} (p0 : 0 ≤ p) : Rat.divInt c (10 ^ p.toNat) = (c : Rat) * T10 (-p) := by
  have e : p = (p.toNat : Int) := by omega
  conv => rhs; rw [e, T10_neg, T10_nat]
  rw [Rat.divInt_eq_div]
  grind
/-- the power is there -/
theorem pow_bd {y : Rat} (y0 : 0 < y) (b : Bd 120 y) : ∃ e : Int, Pow e y ∧ e.natAbs ≤ 40 := by
  have hn : y.num ≠ 0 := num_ne (by grind)
  have hd : (0 : Int) < (y.den : Int) := by have := y.den_pos; omega
  have l : (2 : Nat) ^ 120 ≤ 10 ^ 37 := by decide
  obtain ⟨p, p1, p2, p3⟩ := pow_there hn hd (i := 37) (j := 37) (by have := b.1; omega) (by have := b.2; omega)
  rw [Rat.num_divInt_den] at p3
  exact ⟨p, p3, by omega⟩
theorem divInt_pos {a b : Int} (ha : 0 < a) (hb : 0 < b) : 0 < Rat.divInt a b := by
  have hb' : (0 : Rat) < (b : Rat) := Rat.intCast_pos.mpr hb
  rw [Rat.divInt_eq_div]
  refine (Rat.lt_div_iff hb').mpr ?_
  have : (0 : Rat) < (a : Rat) := Rat.intCast_pos.mpr ha
  grind
theorem rd_round {C : Addr} {H : Hp} {p s : Addr} {x y : Rat} {Q : VK} {E : XK} (hp : NumAt C H p x) (hs : NumAt C H s y) (bx : Bd 900 x) (by' : Bd 900 y) (y0 : 0 < y) (q : ∀ (t : Addr) (H' : Hp), Same H H' → NumAt C H' t (y * (takenQ .heven (x / y) : Rat)) → Q (.ref t) H') :
    spRounded C ([V.ref p, V.ref s] ++ [V.str "half even"]) H Q E := ⟨p, s, x, y, .heven, rfl, hp, hs, bx, by', by grind, q⟩
theorem rd_short {C : Addr} {H : Hp} {a s : Addr} {x y : Rat} {m : Int} {Q : VK} {E : XK} (ha : NumAt C H a x) (hs : NumAt C H s y) (bx : Bd 200 x) (by' : Bd 120 y) (y0 : 0 < y) (hm : x = (m : Rat) * y)
    (q : ∀ (t : Addr) (p : Int) (v : V) (H' : Hp), Same H H' → Fewest x y p → p ≤ 50 → H' t = some (.tup [.int (nearL (x * T10 p)), .int p, v]) → PaperAt H' v p (x * T10 (p - 1)).floor → Q (.ref t) H') : spShort C ([V.ref a, V.ref s] ++ []) H Q E := by
  obtain ⟨e, h1, h2⟩ := pow_bd y0 by'
  exact ⟨a, s, x, y, m, e, rfl, ha, hs, bx, by'.mono (by decide), y0, hm, h1, by omega, q⟩
theorem back_self {c p : Int} {y : Rat} : backQ c p (y * (takenQ .heven ((c : Rat) * T10 (-p) / y) : Rat)) y = true := by
  unfold backQ
  exact decide_eq_true rfl
end
end My

namespace My
open PySem L2
/-! ### the shortest ones, looked for among four -/
theorem Fewest.le_lb {x y : Rat} {P p : Int} (h : Fewest x y P) (hp : 0 ≤ p) (b : lbQ x y p = true) : P ≤ p := by
  by_cases z : P ≤ p
  · exact z
  · have := h.2.2 p hp (by omega)
    rw [b] at this
    cases this
theorem T10_floor {k0 k1 : Int} (h1 : 0 < k1) (n : Nat) : (Rat.divInt k0 k1 * T10 (n : Int)).floor = k0 * 10 ^ n / k1 := by
  have e : Rat.divInt k0 k1 * T10 (n : Int) = Rat.divInt (k0 * 10 ^ n) k1 := by
    rw [Rat.divInt_eq_div, Rat.divInt_eq_div, T10_nat, Rat.intCast_mul]
    grind
  rw [e, Rat.floor_def]
  have hd : Rat.divInt (k0 * 10 ^ n) k1 = ((k0 * 10 ^ n : Int) : Rat) / (k1 : Rat) := Rat.divInt_eq_div _ _
  rw [← Rat.floor_def]
  have k1' : (0 : Rat) < (k1 : Rat) := Rat.intCast_pos.mpr h1
  generalize k0 * 10 ^ n = t at *
  have q := Int.emod_add_mul_ediv t k1
  have r0 := Int.emod_nonneg t (show k1 ≠ 0 by omega)
  have r1 := Int.emod_lt_of_pos t h1
  rw [hd]
  refine floor_of ?_ ?_
  · refine le_div k1' ?_
    rw [← Rat.intCast_mul]
    exact Rat.intCast_le_intCast.mpr (by rw [Int.mul_comm]; omega)
  · refine (Rat.div_lt_iff k1').mpr ?_
    have : t < (t / k1 + 1) * k1 := by rw [Int.add_mul, Int.mul_comm]; omega
    have := Rat.intCast_lt_intCast.mpr this
    rw [Rat.intCast_mul, Rat.intCast_add] at this
    exact this
end My

namespace My
open PySem L2
section
variable {P : Program} {w : World} {K : PySem.W.Frag} {mg : Str → Option Value} {base : Heap}
/-! ### a grain -/
def GrainOk (H : Hp) (v : V) : Prop := ∃ (p : Addr) (a b : Int), v = .ref p ∧ H p = some (.tup [.int a, .int b]) ∧ (0 < a ∧ a < 2 ^ 38) ∧ (0 < b ∧ b < 2 ^ 38)
/-- the deck stands, what stood stays but for it, the grains made are grains -/
structure GSt (H0 : Hp) (d c : Addr) (H : Hp) (vs : List V) : Prop where
  off : Off d c H0 H
  dk : DeckAt H d c
  all : ∀ v ∈ vs, GrainOk H v
theorem GSt.tup {H0 H : Hp} {d c p : Addr} {vs : List V} {a b : Int} (s : GSt H0 d c H vs) (hp : H p = none) (ha : 0 < a ∧ a < 2 ^ 38) (hb : 0 < b ∧ b < 2 ^ 38) : GSt H0 d c (upd H p (.tup [.int a, .int b])) (.ref p :: vs) := by
  refine ⟨s.off.trans (Off.of (Same.new hp)), s.dk.same (Same.new hp), fun v hv => ?_⟩
  rcases List.mem_cons.mp hv with rfl | hv
  · exact ⟨p, a, b, rfl, upd_same, ha, hb⟩
  · obtain ⟨q, x, y, e, h, h1, h2⟩ := s.all v hv
    exact ⟨q, x, y, e, Same.new hp _ _ h, h1, h2⟩
theorem GSt.lst {H0 H : Hp} {d c p : Addr} {vs xs : List V} (s : GSt H0 d c H vs) (hp : H p = none) : GSt H0 d c (upd H p (.lst xs)) vs := by
  refine ⟨s.off.trans (Off.of (Same.new hp)), s.dk.same (Same.new hp), fun v hv => ?_⟩
  obtain ⟨q, x, y, e, h, h1, h2⟩ := s.all v hv
  exact ⟨q, x, y, e, Same.new hp _ _ h, h1, h2⟩
theorem GSt.draw {H0 H H' : Hp} {d c : Addr} {vs : List V} (s : GSt H0 d c H vs) (o : Off d c H H') (dk : DeckAt H' d c) : GSt H0 d c H' vs := by
  refine ⟨s.off.trans o, dk, fun v hv => ?_⟩
  obtain ⟨q, x, y, e, h, h1, h2⟩ := s.all v hv
  exact ⟨q, x, y, e, o.keep s.dk h (fun _ z => by cases z), h1, h2⟩
def spGrain : Sp := fun vs H Q _ => ∃ (d c : Addr), vs = [.ref d] ∧ DeckAt H d c ∧
  ∀ (p : Addr) (a b : Int) (H' : Hp), Off d c H H' → DeckAt H' d c → H' p = some (.tup [.int a, .int b]) → (0 < a ∧ a < 2 ^ 38) → (0 < b ∧ b < 2 ^ 38) → Q (.ref p) H'
theorem ok_l_grain (T : Txt w K mg) : FnOk P w K mg base CX0 2 T.f_l_grain T.fd_l_grain ["_law_deck_here"] spGrain := by
  refine T.F_l_grain.ok sc_l_grain (fun vs H Q E h => ?_) (fun cdv A outer s H vs Q E hr h => ?_)
  · obtain ⟨d, c, rfl, _⟩ := h
    rfl
  · obtain ⟨d, c, rfl, dk, k⟩ := h
    refine ⟨_, (pss_cons (ps_set (i := 1) sc_l_grain.nd rfl (Or.inl rfl) (pe_ix ix_list (pe_lst (pa_cons pe_int (pa_cons pe_int (pa_cons (pe_op op_pow pe_int pe_int) (pa_cons (pe_op op_pow pe_int pe_int) (pa_cons (pe_op op_pow pe_int pe_int) (pa_cons (pe_op op_pow pe_int pe_int) (pa_cons (pe_op op_pow pe_int pe_int) pa_nil)))))))) (pe_call (ok_l_draw T) (hr.mono (by decide)) (by rfl) T.m_l_draw T.F_l_draw.kp T.b_l_draw .nil pass0 (pa_cons (pv 0) (pa_cons pe_int pa_nil))) (fun _ _ => rfl)))
 (pss_cons (ps_set (i := 2) sc_l_grain.nd rfl (Or.inl rfl) (pe_lst (pa_cons (pe_tup (pa_cons pe_int (pa_cons pe_int pa_nil))) (pa_cons (pe_tup (pa_cons pe_int (pa_cons (pv 1) pa_nil))) (pa_cons (pe_tup (pa_cons (pv 1) (pa_cons pe_int pa_nil))) (pa_cons (pe_tup (pa_cons pe_int (pa_cons pe_int pa_nil))) (pa_cons (pe_tup (pa_cons pe_int (pa_cons pe_int pa_nil))) (pa_cons (pe_tup (pa_cons pe_int (pa_cons pe_int pa_nil))) (pa_cons (pe_tup (pa_cons (pe_op op_add pe_int (pe_call (ok_l_draw T) (hr.mono (by decide)) (by rfl) T.m_l_draw T.F_l_draw.kp T.b_l_draw .nil pass0 (pa_cons (pv 0) (pa_cons pe_int pa_nil)))) (pa_cons (pe_op op_add pe_int (pe_call (ok_l_draw T) (hr.mono (by decide)) (by rfl) T.m_l_draw T.F_l_draw.kp T.b_l_draw .nil pass0 (pa_cons (pv 0) (pa_cons pe_int pa_nil)))) pa_nil))) pa_nil)))))))))
 (pss_cons (ps_set (i := 2) sc_l_grain.nd rfl (Or.inl rfl) (pe_op op_cat (pv 2) (pe_lst (pa_cons (pe_tup (pa_cons pe_int (pa_cons pe_int pa_nil))) (pa_cons (pe_tup (pa_cons (pe_op op_mul (pv 1) pe_int) (pa_cons pe_int pa_nil))) (pa_cons (pe_tup (pa_cons (pe_op op_add pe_int (pe_call (ok_l_draw T) (hr.mono (by decide)) (by rfl) T.m_l_draw T.F_l_draw.kp T.b_l_draw .nil pass0 (pa_cons (pv 0) (pa_cons (pe_op op_pow pe_int pe_int) pa_nil)))) (pa_cons (pe_op op_add pe_int (pe_call (ok_l_draw T) (hr.mono (by decide)) (by rfl) T.m_l_draw T.F_l_draw.kp T.b_l_draw .nil pass0 (pa_cons (pv 0) (pa_cons (pe_op op_pow pe_int pe_int) pa_nil)))) pa_nil))) pa_nil))))))
 (pss_one (ps_ret (pe_ix ix_list (pv 2) (pe_call (ok_l_draw T) (hr.mono (by decide)) (by rfl) T.m_l_draw T.F_l_draw.kp T.b_l_draw .nil pass0 (pa_cons (pv 0) (pa_cons pe_int pa_nil))) (fun _ _ => rfl))))))), ?_⟩
    walk_at "rd"
    refine r_new (by show 7 ≤ 1000; decide) fun l hl => ?_
    obtain ⟨l1, l2⟩ := fresh_ne dk hl
    have S0 : GSt H d c H [] := ⟨Off.refl _ _ _, dk, fun v hv => by cases hv⟩
    have S1 := S0.lst (xs := [.int 1, .int 10, .int (10 ^ (2 : Int).toNat), .int (10 ^ (3 : Int).toNat), .int (10 ^ (4 : Int).toNat), .int (10 ^ (6 : Int).toNat), .int (10 ^ (8 : Int).toNat)]) hl
    walk_at "rd"
    refine rd_draw S1.dk (by decide) (by decide) fun r H2 o2 dk2 r0 r1 => ?_
    have S2 := S1.draw o2 dk2
    have hL := o2 l _ l1 l2 upd_same
    obtain ⟨t, at_, tm⟩ := atI_mem (xs := [V.int 1, .int 10, .int (10 ^ (2 : Int).toNat), .int (10 ^ (3 : Int).toNat), .int (10 ^ (4 : Int).toNat), .int (10 ^ (6 : Int).toNat), .int (10 ^ (8 : Int).toNat)]) r0 r1
    refine r_ixL hL at_ ?_
    obtain ⟨t, rfl, t0⟩ : ∃ i : Int, t = .int i ∧ (0 < i ∧ i < 2 ^ 27) := by
      simp only [List.mem_cons, List.not_mem_nil, or_false] at tm
      rcases tm with rfl | rfl | rfl | rfl | rfl | rfl | rfl <;> exact ⟨_, rfl, by decide, by decide⟩
    have tb : 0 < t ∧ t < 2 ^ 38 := ⟨t0.1, by omega⟩
    walk_at "rd"
    refine r_new (by show 2 ≤ 1000; decide) fun p1 q1 => ?_
    have S3 := S2.tup (a := 1) (b := 1) q1 (by decide) (by decide)
    walk_at "rd"
    refine r_new (by show 2 ≤ 1000; decide) fun p2 q2 => ?_
    have S4 := S3.tup (a := 1) (b := t) q2 (by decide) tb
    walk_at "rd"
    refine r_new (by show 2 ≤ 1000; decide) fun p3 q3 => ?_
    have S5 := S4.tup (a := t) (b := 1) q3 tb (by decide)
    walk_at "rd"
    refine r_new (by show 2 ≤ 1000; decide) fun p4 q4 => ?_
    have S6 := S5.tup (a := 1) (b := 8) q4 (by decide) (by decide)
    walk_at "rd"
    refine r_new (by show 2 ≤ 1000; decide) fun p5 q5 => ?_
    have S7 := S6.tup (a := 1) (b := 3) q5 (by decide) (by decide)
    walk_at "rd"
    refine r_new (by show 2 ≤ 1000; decide) fun p6 q6 => ?_
    have S8 := S7.tup (a := 7) (b := 1) q6 (by decide) (by decide)
    walk_at "rd"
    refine rd_draw S8.dk (by decide) (by decide) fun u H3 o3 dk3 u0 u1 => ?_
    have S9 := S8.draw o3 dk3
    walk_at "rd"
    refine rd_draw S9.dk (by decide) (by decide) fun v H4 o4 dk4 v0 v1 => ?_
    have S10 := S9.draw o4 dk4
    walk_at "rd"
    refine r_new (by show 2 ≤ 1000; decide) fun p7 q7 => ?_
    have S11 := S10.tup (a := 1 + u) (b := 1 + v) q7 (by omega) (by omega)
    walk_at "rd"
    refine r_new (by show 7 ≤ 1000; decide) fun m hm => ?_
    obtain ⟨m1, m2⟩ := fresh_ne S11.dk hm
    have S12 := S11.lst (xs := [.ref p1, .ref p2, .ref p3, .ref p4, .ref p5, .ref p6, .ref p7]) hm
    have M12 : upd (upd H4 p7 (.tup [.int (1 + u), .int (1 + v)])) m (.lst [.ref p1, .ref p2, .ref p3, .ref p4, .ref p5, .ref p6, .ref p7]) m = some (.lst [.ref p1, .ref p2, .ref p3, .ref p4, .ref p5, .ref p6, .ref p7]) := upd_same
    walk_at "rd"
    refine r_new (by show 2 ≤ 1000; decide) fun p8 q8 => ?_
    have S13 := S12.tup (a := 1) (b := 20) q8 (by decide) (by decide)
    have M13 := Same.new (o := .tup [.int 1, .int 20]) q8 _ _ M12
    walk_at "rd"
    refine r_new (by show 2 ≤ 1000; decide) fun p9 q9 => ?_
    have S14 := S13.tup (a := t * 1000) (b := 1) q9 (by omega) (by decide)
    have M14 := Same.new (o := .tup [.int (t * 1000), .int 1]) q9 _ _ M13
    walk_at "rd"
    refine rd_draw S14.dk (by decide) (by decide) fun u' H5 o5 dk5 u0' u1' => ?_
    have S15 := S14.draw o5 dk5
    have M15 := o5 _ _ m1 m2 M14
    walk_at "rd"
    refine rd_draw S15.dk (by decide) (by decide) fun v' H6 o6 dk6 v0' v1' => ?_
    have S16 := S15.draw o6 dk6
    have M16 := o6 _ _ m1 m2 M15
    walk_at "rd"
    refine r_new (by show 2 ≤ 1000; decide) fun p10 q10 => ?_
    have S17 := S16.tup (a := 1 + u') (b := 1 + v') q10 (by have e : (10 : Int) ^ (6 : Int).toNat = 1000000 := rfl; omega) (by have e : (10 : Int) ^ (6 : Int).toNat = 1000000 := rfl; omega)
    have M17 := Same.new (o := .tup [.int (1 + u'), .int (1 + v')]) q10 _ _ M16
    walk_at "rd"
    refine r_new (by show 3 ≤ 1000; decide) fun n hn => ?_
    have S18 := S17.lst (xs := [.ref p8, .ref p9, .ref p10]) hn
    have M18 := Same.new (o := .lst [.ref p8, .ref p9, .ref p10]) hn _ _ M17
    refine ⟨m, n, _, _, rfl, rfl, M18, upd_same, by show 7 + 3 ≤ sizeLine; decide, fun f hf => ?_⟩
    obtain ⟨f1, f2⟩ := fresh_ne S18.dk hf
    have S19 := S18.lst (xs := [.ref p1, .ref p2, .ref p3, .ref p4, .ref p5, .ref p6, .ref p7] ++ [.ref p8, .ref p9, .ref p10]) hf
    walk_at "rd"
    refine rd_draw S19.dk (by decide) (by decide) fun r' H7 o7 dk7 r0' r1' => ?_
    have S20 := S19.draw o7 dk7
    have hF := o7 f _ f1 f2 upd_same
    obtain ⟨g, ag, gm⟩ := atI_mem (xs := [V.ref p1, .ref p2, .ref p3, .ref p4, .ref p5, .ref p6, .ref p7] ++ [V.ref p8, .ref p9, .ref p10]) r0' (by show r' < 10; exact r1')
    refine r_ixL hF ag ?_
    have hg : g ∈ [V.ref p10, .ref p9, .ref p8, .ref p7, .ref p6, .ref p5, .ref p4, .ref p3, .ref p2, .ref p1] := by
      simp only [List.mem_cons, List.cons_append, List.nil_append, List.not_mem_nil, or_false] at gm ⊢
      rcases gm with h | h | h | h | h | h | h | h | h | h <;> simp [h]
    obtain ⟨p, a, b, rfl, hp, ha, hb⟩ := S20.all g hg
    exact k p a b H7 S20.off S20.dk hp ha hb
end
end My

namespace My
open PySem L2
section
variable {P : Program} {w : World} {K : PySem.W.Frag} {mg : Str → Option Value} {base : Heap}
def spSteps : Sp := fun vs H Q _ => ∃ (n g : Addr) (t b c d : Int), vs = [.ref n, .ref g] ∧ H n = some (.tup [.int t, .int b]) ∧ H g = some (.tup [.int c, .int d]) ∧ t.natAbs < 2 ^ 320 ∧ (0 < b ∧ b < 2 ^ 140) ∧ (0 < c ∧ c < 2 ^ 40) ∧ (0 < d ∧ d < 2 ^ 40) ∧
  ∀ (p : Addr) (H' : Hp), Same H H' → H' p = some (.tup [.int (t * d / (b * c)), .int (t * d - t * d / (b * c) * (b * c)), .int (b * c)]) → Q (.ref p) H'
theorem ok_l_steps (T : Txt w K mg) : FnOk P w K mg base CX0 1 T.f_l_steps T.fd_l_steps ["_law_number", "_law_grain_here"] spSteps := by
  refine T.F_l_steps.ok sc_l_steps (fun vs H Q E h => ?_) (fun cdv A outer s H vs Q E hr h => ?_)
  · obtain ⟨n, g, t, b, c, d, rfl, _⟩ := h
    rfl
  · obtain ⟨n, g, t, b, c, d, rfl, hn, hg, ht, hb, hc, hd, k⟩ := h
    refine ⟨_, (pss_cons (ps_par (i := 2) (j := 3) rfl sc_l_steps.nd rfl rfl (by decide) rfl rfl (pa_cons (pe_op op_mulW (pe_ix ix_tup (pv 0) pe_int (fun _ _ => rfl)) (pe_ix ix_tup (pv 1) pe_int (fun _ _ => rfl))) (pa_cons (pe_op op_mulW (pe_ix ix_tup (pv 0) pe_int (fun _ _ => rfl)) (pe_ix ix_tup (pv 1) pe_int (fun _ _ => rfl))) pa_nil)) (by rfl))
 (pss_cons (ps_set (i := 4) sc_l_steps.nd rfl (Or.inl rfl) (pe_op op_fdivW (pv 2) (pv 3)))
 (pss_one (ps_ret (pe_tup (pa_cons (pv 4) (pa_cons (pe_op op_sub (pv 2) (pe_op op_mulW (pv 4) (pv 3))) (pa_cons (pv 3) pa_nil)))))))), ?_⟩
    have td : (t * d).natAbs < 2 ^ 360 := natAbs_mul_lt (m := 320) (n := 40) ht (by omega) (by decide)
    have bc : (b * c).natAbs < 2 ^ 180 := natAbs_mul_lt (m := 140) (n := 40) (by omega) (by omega) (by decide)
    have bc0 : 0 < b * c := Int.mul_pos hb.1 hc.1
    walk_at "rdg"
    refine r_ixT hn (atI_nat (j := 0) rfl) ?_
    walk_at "rdg"
    refine r_ixT hg (atI_nat (j := 1) rfl) ?_
    refine r_I (wide_mul (a := 320) (b := 40) ht (by omega) (by decide) (by decide) (by decide)) ?_
    walk_at "rdg"
    refine r_ixT hn (atI_nat (j := 1) rfl) ?_
    walk_at "rdg"
    refine r_ixT hg (atI_nat (j := 0) rfl) ?_
    refine r_I (wide_mul (a := 140) (b := 40) (by omega) (by omega) (by decide) (by decide) (by decide)) ?_
    walk_at "rdg"
    refine r_I (wide_div bc0 (lt9000 (Nat.lt_of_lt_of_le bc (by decide))) (by decide) (Nat.le_refl _)) ?_
    walk_at "rdg"
    have qb : (t * d / (b * c)).natAbs < 2 ^ 360 := Nat.lt_of_le_of_lt (Int.natAbs_ediv_le_natAbs _ _) td
    refine r_I (wide_mul (a := 360) (b := 180) qb bc (by decide) (by decide) (by decide)) ?_
    walk_at "rdg"
    refine r_new (by show 3 ≤ 1000; decide) fun p hp => ?_
    exact k p _ (Same.new hp) upd_same
def byName (r : Way) (v1 v2 v3 v4 : V) : Option V := match r with
  | .up => some v1
  | .down => some v2
  | .high => some v3
  | .low => some v4
  | _ => none
def byHalf (r : Way) (v1 v2 v3 v4 : V) : Option V := match r with
  | .hup => some v1
  | .hdown => some v2
  | .heven => some v3
  | .hodd => some v4
  | _ => none
theorem val_name (r : Way) (v1 v2 v3 v4 : V) : valV (mergeK [] [((.inr "up" : Key), v1), (.inr "down", v2), (.inr "high", v3), (.inr "low", v4)]) (.inr (wname r)) = byName r v1 v2 v3 v4 := by cases r <;> rfl
theorem val_half (r : Way) (v1 v2 v3 v4 : V) : valV (mergeK [] [((.inr "half up" : Key), v1), (.inr "half down", v2), (.inr "half even", v3), (.inr "half odd", v4)]) (.inr (wname r)) = byHalf r v1 v2 v3 v4 := by cases r <;> rfl
theorem dget_name {H : Hp} {q : Addr} {r : Way} {v1 v2 v3 v4 v : V} (e : H q = some (.dK (mergeK [] [((.inr "up" : Key), v1), (.inr "down", v2), (.inr "high", v3), (.inr "low", v4)]))) (h : byName r v1 v2 v3 v4 = some v) : DGet H q (.str (wname r)) (some v) := by
  rw [← h, ← val_name]
  exact DGet.k (k := .inr (wname r)) e
theorem dget_half {H : Hp} {q : Addr} {r : Way} {v1 v2 v3 v4 v : V} (e : H q = some (.dK (mergeK [] [((.inr "half up" : Key), v1), (.inr "half down", v2), (.inr "half even", v3), (.inr "half odd", v4)]))) (h : byHalf r v1 v2 v3 v4 = some v) : DGet H q (.str (wname r)) (some v) := by
  rw [← h, ← val_half]
  exact DGet.k (k := .inr (wname r)) e
theorem some_name (r : Way) (v1 v2 v3 v4 : V) : (byName r v1 v2 v3 v4).isSome = !isHalf r := by cases r <;> rfl
theorem neg_dec (l : Int) : decide (l < 0) = !decide (0 ≤ l) := by
  by_cases z : 0 ≤ l
  · rw [decide_eq_true z, decide_eq_false (by omega)]; rfl
  · rw [decide_eq_false z, decide_eq_true (by omega)]; rfl
theorem name_is {r : Way} (h : isHalf r = false) (l : Int) (p : Rat) : byName r (.int (if decide (0 ≤ l) = true then l + 1 else l)) (.int (if (!decide (0 ≤ l)) = true then l + 1 else l)) (.int (l + 1)) (.int l) = some (.int (if ruleB r l p = true then l + 1 else l)) := by
  cases r <;> first | exact absurd h (by decide) | (simp only [byName, ruleB, neg_dec]; rfl) | simp [byName, ruleB]
theorem half_rule {r : Way} (h : isHalf r = true) (l : Int) (p : Rat) : ruleB r l p = nearerB p (tieUp r l) := by
  cases r <;> first | exact absurd h (by decide) | rfl
theorem half_is {r : Way} (h : isHalf r = true) (l : Int) : byHalf r (.int (if decide (0 ≤ l) = true then l + 1 else l)) (.int (if (!decide (0 ≤ l)) = true then l + 1 else l)) (.int (l + l % 2)) (.int (2 * l + 1 - (l + l % 2))) = some (.int (if tieUp r l = true then l + 1 else l)) := by
  cases r with
  | up => cases h
  | down => cases h
  | high => cases h
  | low => cases h
  | hup => rfl
  | hdown =>
    show some (V.int (if (!decide (0 ≤ l)) = true then l + 1 else l)) = some (V.int (if decide (l < 0) = true then l + 1 else l))
    rw [neg_dec]
  | heven =>
    have e : l + l % 2 = if decide (l % 2 = 1) = true then l + 1 else l := by
      by_cases z : l % 2 = 1
      · rw [if_pos (decide_eq_true z)]; omega
      · rw [if_neg (by simpa using z)]; omega
    show some (V.int (l + l % 2)) = some (V.int (if decide (l % 2 = 1) = true then l + 1 else l))
    rw [← e]
  | hodd =>
    have e : 2 * l + 1 - (l + l % 2) = if decide (l % 2 = 0) = true then l + 1 else l := by
      by_cases z : l % 2 = 0
      · rw [if_pos (decide_eq_true z)]; omega
      · rw [if_neg (by simpa using z)]; omega
    show some (V.int (2 * l + 1 - (l + l % 2))) = some (V.int (if decide (l % 2 = 0) = true then l + 1 else l))
    rw [← e]
def spCount : Sp := fun vs H Q _ => ∃ (n g : Addr) (t b c d : Int) (r : Way), vs = [.ref n, .ref g, .str (wname r)] ∧ H n = some (.tup [.int t, .int b]) ∧ H g = some (.tup [.int c, .int d]) ∧ t.natAbs < 2 ^ 320 ∧ (0 < b ∧ b < 2 ^ 140) ∧ (0 < c ∧ c < 2 ^ 40) ∧ (0 < d ∧ d < 2 ^ 40) ∧
  ∀ H' : Hp, Same H H' → Q (.int (takenQ r (Rat.divInt t b / Rat.divInt c d))) H'
theorem two_at {i j : Int} (k : Bool) : atI [V.int i, .int j] (if k then 1 else 0) = some (.int (if k = true then j else i)) := by cases k <;> rfl
theorem ok_l_count (T : Txt w K mg) : FnOk P w K mg base CX0 2 T.f_l_count T.fd_l_count ["_law_number", "_law_grain_here", "_law_rule"] spCount := by
  refine T.F_l_count.ok sc_l_count (fun vs H Q E h => ?_) (fun cdv A outer s H vs Q E hr h => ?_)
  · obtain ⟨n, g, t, b, c, d, r, rfl, _⟩ := h
    rfl
  · obtain ⟨n, g, t, b, c, d, r, rfl, hn, hg, ht, hb, hc, hd, k⟩ := h
    refine ⟨_, (pss_cons (ps_asg (pe_call (ok_l_steps T) (hr.mono (by decide)) (by rfl) T.m_l_steps T.F_l_steps.kp T.b_l_steps .nil pass0 (pa_cons (pv 0) (pa_cons (pv 1) pa_nil))) (pg_tup rfl (pgs_cons (pg_name (i := 3) sc_l_count.nd rfl (Or.inl rfl)) (pgs_cons (pg_name (i := 4) sc_l_count.nd rfl (Or.inl rfl)) (pgs_cons (pg_name (i := 5) sc_l_count.nd rfl (Or.inl rfl)) pgs_nil)))))
 (pss_cons (ps_if (pt_cmpR op_eq (pv 4) pe_int (nomark _))
  (pss_one (ps_ret (pv 3)))
  pss_nil)
 (pss_cons (ps_set (i := 6) sc_l_count.nd rfl (Or.inl rfl) (pe_cmpR op_gt (pe_ix ix_tup (pv 0) pe_int (fun _ _ => rfl)) pe_int (nomark _)))
 (pss_cons (ps_par (i := 7) (j := 8) rfl sc_l_count.nd rfl rfl (by decide) rfl rfl (pa_cons (pe_ix ix_list (pe_lst (pa_cons (pv 3) (pa_cons (pe_op op_add (pv 3) pe_int) pa_nil))) (pe_callTy call_int1 (by rfl) T.n_int (by decide +kernel) (pa_cons (pv 6) pa_nil)) (fun _ _ => rfl)) (pa_cons (pe_ix ix_list (pe_lst (pa_cons (pv 3) (pa_cons (pe_op op_add (pv 3) pe_int) pa_nil))) (pe_callTy call_int1 (by rfl) T.n_int (by decide +kernel) (pa_cons (pe_not (pv 6)) pa_nil)) (fun _ _ => rfl)) pa_nil)) (by rfl))
 (pss_cons (ps_set (i := 9) sc_l_count.nd rfl (Or.inl rfl) (pe_disp (pps_cons pe_str (pv 7) (pps_cons pe_str (pv 8) (pps_cons pe_str (pe_op op_add (pv 3) pe_int) (pps_cons pe_str (pv 3) pps_nil)))) rfl rfl (by simp) (by decide)))
 (pss_cons (ps_if (pt_cmp (pc_din (Nat.lt_of_le_of_lt (Nat.add_le_add_left (by decide) _) hr.units) (pv 2) (pv 9)) (by rfl))
  (pss_one (ps_ret (pe_dget (Nat.lt_of_le_of_lt (Nat.add_le_add_left (by decide) _) hr.units) (pv 9) (pv 2) (fun _ _ => rfl))))
  pss_nil)
 (pss_cons (ps_if (pt_cmpR op_ne (pe_op op_mul pe_int (pv 4)) (pv 5) (nomark _))
  (pss_one (ps_ret (pe_op op_add (pv 3) (pe_callTy call_int1 (by rfl) T.n_int (by decide +kernel) (pa_cons (pe_cmpR op_gt (pe_op op_mul pe_int (pv 4)) (pv 5) (nomark _)) pa_nil)))))
  pss_nil)
 (pss_cons (ps_set (i := 10) sc_l_count.nd rfl (Or.inl rfl) (pe_op op_add (pv 3) (pe_op op_mod (pv 3) pe_int)))
 (pss_one (ps_ret (pe_dget (Nat.lt_of_le_of_lt (Nat.add_le_add_left (by decide) _) hr.units) (pe_disp (pps_cons pe_str (pv 7) (pps_cons pe_str (pv 8) (pps_cons pe_str (pv 10) (pps_cons pe_str (pe_op op_sub (pe_op op_add (pe_op op_mul pe_int (pv 3)) pe_int) (pv 10)) pps_nil)))) rfl rfl (by simp) (by decide)) (pv 2) (fun _ _ => rfl)))))))))))), ?_⟩
    have bc0 : 0 < b * c := Int.mul_pos hb.1 hc.1
    have r0 : 0 ≤ t * d - t * d / (b * c) * (b * c) := by
      have := Int.emod_nonneg (t * d) (show b * c ≠ 0 by omega)
      rw [Int.emod_def, Int.mul_comm (b * c)] at this
      exact this
    have r1 : t * d - t * d / (b * c) * (b * c) < b * c := by
      have := Int.emod_lt_of_pos (t * d) bc0
      rw [Int.emod_def, Int.mul_comm (b * c)] at this
      exact this
    have split := steps_split (t := t) hb.1 hc.1 hd.1
    have pos : (0 < t) ↔ (0 ≤ t * d / (b * c) ∧ ¬ (t * d / (b * c) = 0 ∧ t * d - t * d / (b * c) * (b * c) = 0)) := by
      constructor
      · intro h
        have td : 0 < t * d := Int.mul_pos h hd.1
        refine ⟨Int.ediv_nonneg (by omega) (by omega), fun ⟨z1, z2⟩ => ?_⟩
        rw [z1] at z2
        omega
      · rintro ⟨h1, h2⟩
        refine Classical.byContradiction fun z => ?_
        have td : t * d ≤ 0 := Int.mul_nonpos_of_nonpos_of_nonneg (by omega) (by omega)
        have le : t * d / (b * c) ≤ 0 := by
          have := Int.ediv_le_ediv bc0 td
          rw [Int.zero_ediv] at this
          exact this
        have z0 : t * d / (b * c) = 0 := by omega
        rw [z0] at r0 h2
        omega
    walk_at "rdg"
    refine ⟨n, g, t, b, c, d, rfl, hn, hg, ht, hb, hc, hd, fun p H1 s1 h1 => ?_⟩
    refine r_gTup h1 rfl ?_
    rw [split] at k
    generalize t * d - t * d / (b * c) * (b * c) = rest at *
    generalize t * d / (b * c) = low at *
    generalize b * c = whole at *
    walk_at "rdg"
    refine r_ite (fun e => ?_) (fun e => ?_)
    · have e0 : rest = 0 := of_decide_eq_true e
      walk_at "rdg"
      have kk := k H1 s1
      have z : (low : Rat) + Rat.divInt rest whole = (low : Rat) := by
        rw [e0, Rat.divInt_eq_div]
        have e3 : ((0 : Int) : Rat) = 0 := rfl
        rw [e3]; grind
      rw [z, taken_int] at kk
      exact kk
    · have e0 : rest ≠ 0 := of_decide_eq_false e
      have rp : 0 < rest := by omega
      rw [taken_of rp r1] at k
      walk_at "rdg"
      refine r_ixT (s1 _ _ hn) (atI_nat (j := 0) rfl) ?_
      walk_at "rdg"
      refine r_new (by show 2 ≤ 1000; decide) fun l hl => ?_
      have s2 := Same.new (o := .lst [.int low, .int (low + 1)]) hl
      walk_at "rdg"
      refine .inr ⟨_, rfl, ?_⟩
      refine r_ixL upd_same (two_at _) ?_
      walk_at "rdg"
      refine r_new (by show 2 ≤ 1000; decide) fun l2 hl2 => ?_
      have s3 := Same.new (o := .lst [.int low, .int (low + 1)]) hl2
      walk_at "rdg"
      refine .inr ⟨_, rfl, ?_⟩
      refine r_ixL upd_same (two_at _) ?_
      walk_at "rdg"
      have s13 := (s1.trans s2).trans s3
      generalize upd (upd H1 l (.lst [.int low, .int (low + 1)])) l2 (.lst [.int low, .int (low + 1)]) = H3 at *
      have a1 : decide (0 < t) = decide (0 ≤ low) := by rw [decide_eq_decide, pos]; constructor <;> intro h <;> omega
      rw [a1]
      refine r_disp fun q hq => ?_
      walk_at "rdh"
      refine ⟨upd_same, [((.inr "up" : Key), V.int (if decide (0 ≤ low) = true then low + 1 else low)), (.inr "down", .int (if (!decide (0 ≤ low)) = true then low + 1 else low)), (.inr "high", .int (low + 1)), (.inr "low", .int low)], rfl, by show 4 ≤ 15; decide, ?_⟩
      have s4 := Same.dict (o1 := .dK []) (o2 := .dK (mergeK [] [((.inr "up" : Key), V.int (if decide (0 ≤ low) = true then low + 1 else low)), (.inr "down", .int (if (!decide (0 ≤ low)) = true then low + 1 else low)), (.inr "high", .int (low + 1)), (.inr "low", .int low)])) hq
      have hd4 : upd (upd H3 q (.dK [])) q (.dK (mergeK [] [((.inr "up" : Key), V.int (if decide (0 ≤ low) = true then low + 1 else low)), (.inr "down", .int (if (!decide (0 ≤ low)) = true then low + 1 else low)), (.inr "high", .int (low + 1)), (.inr "low", .int low)])) q = some (.dK (mergeK [] [((.inr "up" : Key), V.int (if decide (0 ≤ low) = true then low + 1 else low)), (.inr "down", .int (if (!decide (0 ≤ low)) = true then low + 1 else low)), (.inr "high", .int (low + 1)), (.inr "low", .int low)])) := upd_same
      generalize upd (upd H3 q (.dK [])) q (.dK (mergeK [] [((.inr "up" : Key), V.int (if decide (0 ≤ low) = true then low + 1 else low)), (.inr "down", .int (if (!decide (0 ≤ low)) = true then low + 1 else low)), (.inr "high", .int (low + 1)), (.inr "low", .int low)])) = H4 at *
      have s14 := s13.trans s4
      walk_at "rdh"
      refine ⟨q, _, rfl, DGet.k (k := .inr (wname r)) hd4, ?_⟩
      rw [val_name, some_name]
      walk_at "rdh"
      refine r_ite (fun e1 => ?_) (fun e1 => ?_)
      · have nh : isHalf r = false := by simpa using e1
        walk_at "rdh"
        refine ⟨q, _, rfl, dget_name hd4 (name_is nh low (Rat.divInt rest whole)), ?_⟩
        exact k _ s14
      · have nh : isHalf r = true := by simpa using e1
        rw [half_rule nh, nearer_div rp r1] at k
        walk_at "rdh"
        refine r_ite (fun e2 => ?_) (fun e2 => ?_)
        · have ne : ¬ 2 * rest = whole := by simpa using e2
          rw [if_neg ne] at k
          walk_at "rdh"
          refine .inr ⟨_, rfl, ?_⟩
          have ee : low + (if decide (whole < 2 * rest) = true then 1 else 0) = if decide (whole < 2 * rest) = true then low + 1 else low := by split <;> omega
          walk_at "rdh"
          rw [ee]
          exact k _ s14
        · have ne : 2 * rest = whole := by simpa using e2
          rw [if_pos ne] at k
          walk_at "rdh"
          refine r_disp fun q2 hq2 => ?_
          walk_at "rdh"
          refine ⟨upd_same, [((.inr "half up" : Key), V.int (if decide (0 ≤ low) = true then low + 1 else low)), (.inr "half down", .int (if (!decide (0 ≤ low)) = true then low + 1 else low)), (.inr "half even", .int (low + low % 2)), (.inr "half odd", .int (2 * low + 1 - (low + low % 2)))], rfl, by show 4 ≤ 15; decide, ?_⟩
          walk_at "rdh"
          refine ⟨q2, _, rfl, dget_half upd_same (half_is nh low), ?_⟩
          exact k _ (s14.trans (Same.dict hq2))
end
end My

namespace My
open PySem L2
section
variable {P : Program} {w : World} {K : PySem.W.Frag} {mg : Str → Option Value} {base : Heap}
def spKept : Sp := fun vs H Q _ => ∃ (d c g : Addr) (a b : Int), vs = [.ref d, .ref g] ∧ DeckAt H d c ∧ H g = some (.tup [.int a, .int b]) ∧ (0 < a ∧ a < 2 ^ 38) ∧
  ∀ (t : Addr) (m : Int) (H' : Hp), Off d c H H' → DeckAt H' d c → H' t = some (.tup [.int (a * m), .int b]) → m.natAbs < 2 ^ 20 → Q (.ref t) H'
theorem ok_l_kept (T : Txt w K mg) : FnOk P w K mg base CX0 2 T.f_l_kept T.fd_l_kept ["_law_deck_here", "_law_grain_here"] spKept := by
  refine T.F_l_kept.ok sc_l_kept (fun vs H Q E h => ?_) (fun cdv A outer s H vs Q E hr h => ?_)
  · obtain ⟨d, c, g, a, b, rfl, _⟩ := h
    rfl
  · obtain ⟨d, c, g, a, b, rfl, dk, hg, ha, k⟩ := h
    refine ⟨_, (pss_cons (ps_set (i := 2) sc_l_kept.nd rfl (Or.inl rfl) (pe_lst (pa_cons (pe_call (ok_l_draw T) (hr.mono (by decide)) (by rfl) T.m_l_draw T.F_l_draw.kp T.b_l_draw .nil pass0 (pa_cons (pv 0) (pa_cons pe_int pa_nil))) (pa_cons (pe_op op_add pe_int (pe_call (ok_l_draw T) (hr.mono (by decide)) (by rfl) T.m_l_draw T.F_l_draw.kp T.b_l_draw .nil pass0 (pa_cons (pv 0) (pa_cons pe_int pa_nil)))) (pa_cons (pe_op op_add pe_int (pe_call (ok_l_draw T) (hr.mono (by decide)) (by rfl) T.m_l_draw T.F_l_draw.kp T.b_l_draw .nil pass0 (pa_cons (pv 0) (pa_cons pe_int pa_nil)))) (pa_cons pe_int (pa_cons (pe_call (ok_l_draw T) (hr.mono (by decide)) (by rfl) T.m_l_draw T.F_l_draw.kp T.b_l_draw .nil pass0 (pa_cons (pv 0) (pa_cons (pe_op op_pow pe_int pe_int) pa_nil))) pa_nil)))))))
 (pss_cons (ps_set (i := 3) sc_l_kept.nd rfl (Or.inl rfl) (pe_op op_mulW (pe_ix ix_list (pv 2) (pe_call (ok_l_draw T) (hr.mono (by decide)) (by rfl) T.m_l_draw T.F_l_draw.kp T.b_l_draw .nil pass0 (pa_cons (pv 0) (pa_cons pe_int pa_nil))) (fun _ _ => rfl)) (pe_ix ix_list (pe_lst (pa_cons pe_int (pa_cons (pe_un un_neg pe_int) pa_nil))) (pe_call (ok_l_draw T) (hr.mono (by decide)) (by rfl) T.m_l_draw T.F_l_draw.kp T.b_l_draw .nil pass0 (pa_cons (pv 0) (pa_cons pe_int pa_nil))) (fun _ _ => rfl))))
 (pss_one (ps_ret (pe_tup (pa_cons (pe_op op_mulW (pe_ix ix_tup (pv 1) pe_int (fun _ _ => rfl)) (pv 3)) (pa_cons (pe_ix ix_tup (pv 1) pe_int (fun _ _ => rfl)) pa_nil))))))), ?_⟩
    have e6 : (10 : Int) ^ (6 : Int).toNat = 1000000 := rfl
    walk_at "rdh"
    refine rd_draw dk (by decide) (by decide) fun v1 H1 o1 dk1 v10 v11 => ?_
    walk_at "rdh"
    refine rd_draw dk1 (by decide) (by decide) fun v2 H2 o2 dk2 v20 v21 => ?_
    walk_at "rdh"
    refine rd_draw dk2 (by decide) (by decide) fun v3 H3 o3 dk3 v30 v31 => ?_
    walk_at "rdh"
    refine rd_draw dk3 (by decide) (by decide) fun v4 H4 o4 dk4 v40 v41 => ?_
    walk_at "rdh"
    refine r_new (by show 5 ≤ 1000; decide) fun l hl => ?_
    obtain ⟨l1, l2⟩ := fresh_ne dk4 hl
    have dk5 := dk4.same (Same.new (o := .lst [.int v1, .int (9 + v2), .int (99 + v3), .int 999, .int v4]) hl)
    have hg4 := o4.keep dk3 (o3.keep dk2 (o2.keep dk1 (o1.keep dk hg (fun _ z => by cases z)) (fun _ z => by cases z)) (fun _ z => by cases z)) (fun _ z => by cases z)
    walk_at "rdh"
    refine rd_draw dk5 (by decide) (by decide) fun w' H5 o5 dk6 w0 w1 => ?_
    have hL := o5 l _ l1 l2 upd_same
    have hg5 := o5.keep dk5 (Same.new hl _ _ hg4) (fun _ z => by cases z)
    obtain ⟨x, ax, xm⟩ := atI_mem (xs := [V.int v1, .int (9 + v2), .int (99 + v3), .int 999, .int v4]) w0 w1
    refine r_ixL hL ax ?_
    obtain ⟨x, rfl, x0⟩ : ∃ i : Int, x = .int i ∧ (0 ≤ i ∧ i < 2 ^ 20) := by
      rw [e6] at v41
      simp only [List.mem_cons, List.not_mem_nil, or_false] at xm
      rcases xm with rfl | rfl | rfl | rfl | rfl <;> exact ⟨_, rfl, by omega, by omega⟩
    walk_at "rdh"
    refine r_new (by show 2 ≤ 1000; decide) fun u hu => ?_
    obtain ⟨u1, u2⟩ := fresh_ne dk6 hu
    have dk7 := dk6.same (Same.new (o := .lst [.int 1, .int (-1)]) hu)
    walk_at "rdh"
    refine rd_draw dk7 (by decide) (by decide) fun r6 H6 o6 dk8 r60 r61 => ?_
    have hU := o6 u _ u1 u2 upd_same
    have hg6 := o6.keep dk7 (Same.new hu _ _ hg5) (fun _ z => by cases z)
    obtain ⟨v, av, vm⟩ := atI_mem (xs := [V.int 1, .int (-1)]) r60 r61
    refine r_ixL hU av ?_
    obtain ⟨v, rfl, v0⟩ : ∃ i : Int, v = .int i ∧ (i = 1 ∨ i = -1) := by
      simp only [List.mem_cons, List.not_mem_nil, or_false] at vm
      rcases vm with rfl | rfl
      · exact ⟨_, rfl, .inl rfl⟩
      · exact ⟨_, rfl, .inr rfl⟩
    refine r_I (wide_mul (a := 20) (b := 2) (by omega) (by omega) (by decide) (by decide) (by decide)) ?_
    have mb : (x * v).natAbs < 2 ^ 20 := by rcases v0 with rfl | rfl <;> omega
    walk_at "rdh"
    refine r_ixT hg6 (atI_nat (j := 0) rfl) ?_
    walk_at "rdh"
    refine r_I (wide_mul (a := 38) (b := 20) (by omega) mb (by decide) (by decide) (by decide)) ?_
    walk_at "rdh"
    refine r_ixT hg6 (atI_nat (j := 1) rfl) ?_
    walk_at "rdh"
    refine r_new (by show 2 ≤ 1000; decide) fun t ht => ?_
    refine k t (x * v) _ ?_ (dk8.same (Same.new ht)) upd_same mb
    exact (((((((o1.trans o2).trans o3).trans o4).trans (Off.of (Same.new hl))).trans o5).trans (Off.of (Same.new hu))).trans o6).trans (Off.of (Same.new ht))
theorem leads_eq {a b c m p : Int} (ha : 0 < a) (hb : 0 < b) (p0 : 0 ≤ p) : decide (takenQ .heven (Rat.divInt c (10 ^ p.toNat) / Rat.divInt a b) * a = a * m) = backQ c p ((m : Rat) * Rat.divInt a b) (Rat.divInt a b) := by
  unfold backQ
  rw [over_tens c p0, decide_eq_decide]
  have y0 := divInt_pos ha hb
  generalize Rat.divInt a b = y at *
  generalize takenQ .heven ((c : Rat) * T10 (-p) / y) = t
  constructor
  · intro h
    have : t = m := Int.eq_of_mul_eq_mul_right (show a ≠ 0 by omega) (by rw [h, Int.mul_comm])
    rw [this]; grind
  · intro h
    have : ((t : Rat) - (m : Rat)) * y = 0 := by grind
    rcases Rat.mul_eq_zero.mp this with h | h
    · have : t = m := Rat.intCast_inj.mp (by grind)
      rw [this, Int.mul_comm]
    · grind
theorem taken_bd' {n k : Nat} {r : Way} {x : Rat} (h : Bd n x) (l : n + 1 ≤ k) : (takenQ r x).natAbs < 2 ^ k := Nat.lt_of_lt_of_le (taken_bd h) (Nat.pow_le_pow_right (by decide) l)
end
end My

namespace My
open PySem L2
section
variable {P : Program} {w : World} {K : PySem.W.Frag} {mg : Str → Option Value} {base : Heap}
def spLeadsL : Sp := fun vs H Q _ => ∃ (kp g : Addr) (c p a b m : Int), vs = [.int c, .int (10 ^ p.toNat), .ref kp, .ref g] ∧ H kp = some (.tup [.int (a * m), .int b]) ∧ H g = some (.tup [.int a, .int b]) ∧ (0 < a ∧ a < 2 ^ 38) ∧ (0 < b ∧ b < 2 ^ 38) ∧ c.natAbs < 2 ^ 310 ∧ (0 ≤ p ∧ p ≤ 40) ∧
  ∀ H' : Hp, Same H H' → Q (.bl (backQ c p ((m : Rat) * Rat.divInt a b) (Rat.divInt a b))) H'
theorem tens40 {n : Nat} (h : n ≤ 40) : ((10 : Int) ^ n).natAbs < 2 ^ 140 := by
  have h1 := Nat.pow_le_pow_right (n := 10) (by decide) h
  have h2 : (10 : Nat) ^ 40 < 2 ^ 140 := by decide
  have e : (10 : Int) ^ n = ((10 ^ n : Nat) : Int) := by rw [Int.natCast_pow]; rfl
  rw [e, Int.natAbs_natCast]
  omega
theorem ok_l_leads (T : Txt w K mg) : FnOk P w K mg base CX0 3 T.f_l_leads T.fd_l_leads ["_law_count_here", "_law_tens", "_law_kept_here", "_law_grain_here"] spLeadsL := by
  refine T.F_l_leads.ok sc_l_leads (fun vs H Q E h => ?_) (fun cdv A outer s H vs Q E hr h => ?_)
  · obtain ⟨kp, g, c, p, a, b, m, rfl, _⟩ := h
    rfl
  · obtain ⟨kp, g, c, p, a, b, m, rfl, hk, hg, ha, hb, cb, hp, k⟩ := h
    refine ⟨_, (pss_one (ps_ret (pe_cmpR op_eq (pe_op op_mulW (pe_call (ok_l_count T) (hr.mono (by decide)) (by rfl) T.m_l_count T.F_l_count.kp T.b_l_count .nil pass0 (pa_cons (pe_tup (pa_cons (pv 0) (pa_cons (pv 1) pa_nil))) (pa_cons (pv 3) (pa_cons pe_str pa_nil)))) (pe_ix ix_tup (pv 3) pe_int (fun _ _ => rfl))) (pe_ix ix_tup (pv 2) pe_int (fun _ _ => rfl)) (nomark _)))), ?_⟩
    have pb : ((10 : Int) ^ p.toNat).natAbs < 2 ^ 140 := tens40 (by omega)
    have pp := tens_pos p.toNat
    have bt : (takenQ .heven (Rat.divInt c (10 ^ p.toNat) / Rat.divInt a b)).natAbs < 2 ^ 360 := taken_bd' (Bd.div (m := 310) (n := 38) (Bd.of (by omega) cb (Nat.lt_of_lt_of_le pb (by decide))) (Bd.of (by omega) (by omega) (by omega)) (by have := divInt_pos ha.1 hb.1; grind)) (by decide)
    walk_at "rdh"
    refine r_new (by show 2 ≤ 1000; decide) fun t ht => ?_
    have s1 := Same.new (o := .tup [.int c, .int (10 ^ p.toNat)]) ht
    walk_at "rdh"
    refine ⟨t, g, c, 10 ^ p.toNat, a, b, .heven, rfl, upd_same, s1 _ _ hg, Nat.lt_of_lt_of_le cb (by decide), by omega, ⟨ha.1, by omega⟩, ⟨hb.1, by omega⟩, fun H2 s2 => ?_⟩
    walk_at "rdh"
    refine r_ixT (s2 _ _ (s1 _ _ hg)) (atI_nat (j := 0) rfl) ?_
    walk_at "rdh"
    refine r_I (wide_mul (a := 360) (b := 38) bt (by omega) (by decide) (by decide) (by decide)) ?_
    walk_at "rdh"
    refine r_ixT (s2 _ _ (s1 _ _ hk)) (atI_nat (j := 0) rfl) ?_
    walk_at "rdh"
    rw [leads_eq ha.1 hb.1 hp.1]
    exact k _ (s1.trans s2)
end
end My

namespace My
open PySem L2
def fewerOf (p : Int) : Int := if p = 0 then 1 else 10 ^ (p - 1).toNat
theorem fine_step {a b : Int} (ha : 0 < a) (hb : 0 < b ∧ b < 2 ^ 38) : T10 (-12) ≤ Rat.divInt a b := by
  have e : T10 (-12) = 1 / ((10 ^ 12 : Int) : Rat) := by
    have := T10_nat 12
    rw [T10_neg]
    congr 1
  rw [e, Rat.divInt_eq_div]
  have hb' : (0 : Rat) < (b : Rat) := Rat.intCast_pos.mpr hb.1
  refine le_div hb' ?_
  have l1 : (b : Rat) ≤ ((10 ^ 12 : Int) : Rat) := Rat.intCast_le_intCast.mpr (by have : (10 : Int) ^ 12 = 1000000000000 := rfl; omega)
  have l2 : ((1 : Int) : Rat) ≤ (a : Rat) := Rat.intCast_le_intCast.mpr (by omega)
  have e1 : ((1 : Int) : Rat) = 1 := rfl
  have t0 : (0 : Rat) < ((10 ^ 12 : Int) : Rat) := Rat.intCast_pos.mpr (by decide)
  have : 1 / ((10 ^ 12 : Int) : Rat) * (b : Rat) ≤ 1 := by
    have e2 : 1 / ((10 ^ 12 : Int) : Rat) * (b : Rat) = (b : Rat) / ((10 ^ 12 : Int) : Rat) := by grind
    rw [e2]
    refine Rat.not_lt.mp fun q => ?_
    have := (Rat.lt_div_iff t0).mp q
    grind
  grind
/-- where the nearest one leads back, no two neighbours lead back neither -/
theorem goodP_far {x y : Rat} {m q : Int} (hy : 0 < y) (hx : x = (m : Rat) * y) (lb : lbQ x y q = true) (d : PyData) : goodP x y q d = false := by
  unfold goodP
  split
  · rename_i b a
    by_cases h0 : a = b + 1
    · subst h0
      rw [decide_eq_true rfl, Bool.true_and]
      by_cases h1 : (b : Rat) < x * T10 q
      · by_cases h2 : x * T10 q < ((b + 1 : Int) : Rat)
        · obtain ⟨n1, n2⟩ := nearL_is (x * T10 q)
          unfold lbQ at lb
          generalize nearL (x * T10 q) = t at *
          rw [Rat.intCast_add] at h2
          have e1 : ((1 : Int) : Rat) = 1 := rfl
          have t1 : t < b + 1 + 1 := Rat.intCast_lt_intCast.mp (by rw [Rat.intCast_add, Rat.intCast_add]; grind)
          have t2 : b < t + 1 := Rat.intCast_lt_intCast.mp (by rw [Rat.intCast_add]; grind)
          have : t = b ∨ t = b + 1 := by omega
          rcases this with rfl | rfl
          · rw [lb]; simp
          · rw [lb]; simp
        · rw [decide_eq_false h2]; simp
      · rw [decide_eq_false h1]; simp
    · rw [decide_eq_false h0]; rfl
  · rfl
theorem goodS_far {x y : Rat} {m c p : Int} (hy : 0 < y) (hx : x = (m : Rat) * y) (fine : T10 (-12) ≤ y) (hp : 12 < p) (d : PyData) : goodS x y (.tuple [.int c, .int p, d]) = false := by
  have ee : goodS x y (.tuple [.int c, .int p, d]) = ((decide (0 ≤ p) && decide (p ≤ 60)) && (backQ c p x y && if p = 0 then isNon d else goodP x y (p - 1) d)) := rfl
  rw [ee, if_neg (by omega), goodP_far hy hx (lb_mono hy hx (show 12 ≤ p - 1 by omega) (lb_fine hy hx fine)) d]
  simp
/-- between two whole numbers -/
theorem goodP_low {x y : Rat} {q b a : Int} : goodP x y q (.tuple [.int b, .int a]) = ((decide (b = (x * T10 q).floor) && decide (a = b + 1)) && (!decide (((x * T10 q).floor : Rat) = x * T10 q) && (!backQ b q x y && !backQ a q x y))) := by
  have ee : goodP x y q (.tuple [.int b, .int a]) = (decide (a = b + 1) && (decide ((b : Rat) < x * T10 q) && (decide (x * T10 q < (a : Rat)) && (!backQ b q x y && !backQ a q x y)))) := rfl
  rw [ee]
  by_cases h0 : a = b + 1
  · subst h0
    generalize x * T10 q = u
    have f1 := Rat.floor_le u
    have f2 := Rat.lt_floor_add_one u
    by_cases h1 : b = u.floor
    · subst h1
      by_cases h2 : (u.floor : Rat) = u
      · have : decide ((u.floor : Rat) < u) = false := decide_eq_false (by rw [h2]; exact Rat.lt_irrefl)
        rw [this, decide_eq_true h2]
        simp
      · have : decide ((u.floor : Rat) < u) = true := decide_eq_true (by grind)
        have e3 : decide (u < ((u.floor + 1 : Int) : Rat)) = true := decide_eq_true f2
        rw [this, e3, decide_eq_false h2]
        simp
    · have : (decide ((b : Rat) < u) && decide (u < ((b + 1 : Int) : Rat))) = false := by
        rw [Bool.and_eq_false_iff, decide_eq_false_iff_not, decide_eq_false_iff_not]
        refine Classical.byContradiction fun z => h1 ?_
        have z1 : (b : Rat) < u := Classical.byContradiction fun k => z (.inl k)
        have z2 : u < ((b + 1 : Int) : Rat) := Classical.byContradiction fun k => z (.inr k)
        exact (floor_of (Rat.le_of_lt z1) (by rw [Rat.intCast_add] at z2; exact z2)).symm
      rw [decide_eq_false h1, ← Bool.and_assoc (decide ((b : Rat) < u)), this]
      simp
  · rw [decide_eq_false h0]
    simp
theorem T10_int {k0 k1 : Int} (h1 : 0 < k1) (n : Nat) : (k0 * 10 ^ n / k1 * k1 = k0 * 10 ^ n) ↔ (((Rat.divInt k0 k1 * T10 (n : Int)).floor : Rat) = Rat.divInt k0 k1 * T10 (n : Int)) := by
  rw [T10_floor h1]
  have e : Rat.divInt k0 k1 * T10 (n : Int) = ((k0 * 10 ^ n : Int) : Rat) / (k1 : Rat) := by
    rw [Rat.divInt_eq_div, T10_nat, Rat.intCast_mul]
    grind
  rw [e]
  have k1' : (0 : Rat) < (k1 : Rat) := Rat.intCast_pos.mpr h1
  generalize k0 * 10 ^ n = t
  generalize t / k1 = l
  constructor
  · intro h
    rw [← h, Rat.intCast_mul]
    grind
  · intro h
    have : ((l * k1 : Int) : Rat) = (t : Rat) := by rw [Rat.intCast_mul]; grind
    exact Rat.intCast_inj.mp this
section
variable {P : Program} {w : World} {K : PySem.W.Frag} {mg : Str → Option Value} {base : Heap}
theorem ok_l_whole (T : Txt w K mg) : FnOk P w K mg base CX0 1 T.f_l_whole T.fd_l_whole ["_law_thing"] spWholeD := by
  refine T.F_l_whole.ok sc_l_whole (fun vs H Q E h => ?_) (fun cdv A outer s H vs Q E hr h => ?_)
  · obtain ⟨d, c, v, x, rfl, _⟩ := h
    rfl
  · obtain ⟨d, c, v, x, rfl, hv, k⟩ := h
    refine ⟨_, (pss_one (ps_ret (pe_and (pe_callB call_isi (by rfl) T.n_isinstance (by decide +kernel) (pa_cons (pv 0) (pa_cons (pe_bltn (v := .ty "int") (by rfl) T.n_int (by decide +kernel) rfl) pa_nil))) (pe_one (pe_not (pe_callB call_isi (by rfl) T.n_isinstance (by decide +kernel) (pa_cons (pv 0) (pa_cons (pe_bltn (v := .ty "bool") (by rfl) T.n_bool (by decide +kernel) rfl) pa_nil)))))))), ?_⟩
    rw [isW_eq] at k
    walk_at "rdh"
    refine hv.int? ?_
    walk_at "rdh"
    refine r_ite (fun e => ?_) (fun e => ?_)
    · rw [e, Bool.true_and] at k
      walk_at "rdh"
      refine hv.bool? ?_
      walk_at "rdh"
      exact k
    · rw [e, Bool.false_and] at k
      exact k
end
end My

namespace My
open PySem L2
section
variable {P : Program} {w : World} {K : PySem.W.Frag} {mg : Str → Option Value} {base : Heap}
theorem sh2 (b a : Int) : SeqAt.shaped (.tuple [.int b, .int a]) = true := rfl
def spTriple : Sp := fun vs H Q _ => ∃ (d c kp g : Addr) (v : V) (th : PyData) (a b m : Int), vs = [.ref kp, .ref g, v] ∧ Dt d c H v th ∧ fnB 300 th = true ∧ H kp = some (.tup [.int (a * m), .int b]) ∧ H g = some (.tup [.int a, .int b]) ∧ (0 < a ∧ a < 2 ^ 38) ∧ (0 < b ∧ b < 2 ^ 38) ∧ m.natAbs < 2 ^ 20 ∧
  ∀ H' : Hp, Same H H' → Q (.bl (goodS ((m : Rat) * Rat.divInt a b) (Rat.divInt a b) th)) H'
theorem ok_l_is_triple (T : Txt w K mg) : FnOk P w K mg base CX0 4 T.f_l_is_triple T.fd_l_is_triple ["_law_kept_here", "_law_grain_here", "_law_thing"] spTriple := by
  refine T.F_l_is_triple.ok sc_l_is_triple (fun vs H Q E h => ?_) (fun cdv A outer s H vs Q E hr h => ?_)
  · obtain ⟨d, c, kp, g, v, th, a, b, m, rfl, _⟩ := h
    rfl
  · obtain ⟨d, c, kp, g, v, th, a, b, m, rfl, hv, f3, hk, hg, ha, hb, mb, k⟩ := h
    refine ⟨_, (pss_cons (ps_if (PW.pt (pw_or (pt_not (pt_val (pe_callB call_isi (by rfl) T.n_isinstance (by decide +kernel) (pa_cons (pv 2) (pa_cons (pe_bltn (v := .ty "tuple") (by rfl) T.n_tuple (by decide +kernel) rfl) pa_nil))))) (pw_or (pt_cmpR op_ne (pe_callB call_len_seq (by rfl) T.n_len PySem.boot_len (pa_cons (pv 2) pa_nil)) pe_int (nomark _)) (pw_or (pt_not (pt_val (pe_call (ok_l_whole T) (hr.mono (by decide)) (by rfl) T.m_l_whole T.F_l_whole.kp T.b_l_whole .nil pass0 (pa_cons (pe_ix ix_tup (pv 2) pe_int (fun _ _ => rfl)) pa_nil)))) (pw_or1 (pt_not (pt_val (pe_call (ok_l_whole T) (hr.mono (by decide)) (by rfl) T.m_l_whole T.F_l_whole.kp T.b_l_whole .nil pass0 (pa_cons (pe_ix ix_tup (pv 2) pe_int (fun _ _ => rfl)) pa_nil)))))))))
  (pss_one (ps_ret pe_bl))
  pss_nil)
 (pss_cons (ps_asg (pv 2) (pg_tup rfl (pgs_cons (pg_name (i := 3) sc_l_is_triple.nd rfl (Or.inl rfl)) (pgs_cons (pg_name (i := 4) sc_l_is_triple.nd rfl (Or.inl rfl)) (pgs_cons (pg_name (i := 5) sc_l_is_triple.nd rfl (Or.inl rfl)) pgs_nil)))))
 (pss_cons (ps_if (pt_not (pt_chain op_le op_le pe_int (pv 4) pe_int))
  (pss_one (ps_ret pe_bl))
  pss_nil)
 (pss_cons (ps_asg (pe_tup (pa_cons pe_int (pa_cons pe_int pa_nil))) (pg_tup rfl (pgs_cons (pg_name (i := 6) sc_l_is_triple.nd rfl (Or.inl rfl)) (pgs_cons (pg_name (i := 7) sc_l_is_triple.nd rfl (Or.inl rfl)) pgs_nil))))
 (pss_cons (ps_for PassesOwn.never rfl (pi_range1 rfl T.n_range (pa_cons (pv 4) pa_nil)) (pg_name (i := 8) sc_l_is_triple.nd rfl (Or.inl rfl))
  (pss_one (ps_par (i := 6) (j := 7) rfl sc_l_is_triple.nd rfl rfl (by decide) rfl rfl (pa_cons (pe_op op_mul pe_int (pv 6)) (pa_cons (pv 6) pa_nil)) (by rfl))))
 (pss_cons (ps_if (pt_not (pt_val (pe_call (ok_l_leads T) (hr.mono (by decide)) (by rfl) T.m_l_leads T.F_l_leads.kp T.b_l_leads .nil pass0 (pa_cons (pv 3) (pa_cons (pv 6) (pa_cons (pv 0) (pa_cons (pv 1) pa_nil)))))))
  (pss_one (ps_ret pe_bl))
  pss_nil)
 (pss_cons (ps_if (PW.pt (pw_or (pt_cmpR op_eq (pv 4) pe_int (nomark _)) (pw_or1 (pt_cmpR op_isN (pv 5) pe_non (nomark _)))))
  (pss_one (ps_ret (pe_and (pe_cmpR op_eq (pv 4) pe_int (nomark _)) (pe_one (pe_cmpR op_isN (pv 5) pe_non (nomark _))))))
  pss_nil)
 (pss_cons (ps_if (PW.pt (pw_or (pt_not (pt_val (pe_callB call_isi (by rfl) T.n_isinstance (by decide +kernel) (pa_cons (pv 5) (pa_cons (pe_bltn (v := .ty "tuple") (by rfl) T.n_tuple (by decide +kernel) rfl) pa_nil))))) (pw_or (pt_cmpR op_ne (pe_callB call_len_seq (by rfl) T.n_len PySem.boot_len (pa_cons (pv 5) pa_nil)) pe_int (nomark _)) (pw_or (pt_not (pt_val (pe_call (ok_l_whole T) (hr.mono (by decide)) (by rfl) T.m_l_whole T.F_l_whole.kp T.b_l_whole .nil pass0 (pa_cons (pe_ix ix_tup (pv 5) pe_int (fun _ _ => rfl)) pa_nil)))) (pw_or1 (pt_not (pt_val (pe_call (ok_l_whole T) (hr.mono (by decide)) (by rfl) T.m_l_whole T.F_l_whole.kp T.b_l_whole .nil pass0 (pa_cons (pe_ix ix_tup (pv 5) pe_int (fun _ _ => rfl)) pa_nil)))))))))
  (pss_one (ps_ret pe_bl))
  pss_nil)
 (pss_cons (ps_set (i := 9) sc_l_is_triple.nd rfl (Or.inl rfl) (pe_op op_fdivW (pe_op op_mulW (pe_ix ix_tup (pv 0) pe_int (fun _ _ => rfl)) (pv 7)) (pe_ix ix_tup (pv 0) pe_int (fun _ _ => rfl))))
 (pss_cons (ps_if (PW.pt (pw_or (pt_cmpR (op_neD hr.units) (pv 5) (pe_tup (pa_cons (pv 9) (pa_cons (pe_op op_add (pv 9) pe_int) pa_nil))) (nomark _)) (pw_or1 (pt_cmpR op_eq (pe_op op_mulW (pv 9) (pe_ix ix_tup (pv 0) pe_int (fun _ _ => rfl))) (pe_op op_mulW (pe_ix ix_tup (pv 0) pe_int (fun _ _ => rfl)) (pv 7)) (nomark _)))))
  (pss_one (ps_ret pe_bl))
  pss_nil)
 (pss_one (ps_ret (pe_and (pe_not (pe_call (ok_l_leads T) (hr.mono (by decide)) (by rfl) T.m_l_leads T.F_l_leads.kp T.b_l_leads .nil pass0 (pa_cons (pv 9) (pa_cons (pv 7) (pa_cons (pv 0) (pa_cons (pv 1) pa_nil)))))) (pe_one (pe_not (pe_call (ok_l_leads T) (hr.mono (by decide)) (by rfl) T.m_l_leads T.F_l_leads.kp T.b_l_leads .nil pass0 (pa_cons (pe_op op_add (pv 9) pe_int) (pa_cons (pv 7) (pa_cons (pv 0) (pa_cons (pv 1) pa_nil)))))))))))))))))))), ?_⟩
    have k0b : (a * m).natAbs < 2 ^ 58 := natAbs_mul_lt (m := 38) (n := 20) (by omega) mb (by decide)
    have y0 : 0 < Rat.divInt a b := divInt_pos ha.1 hb.1
    have fine := fine_step ha.1 hb
    have hx : Rat.divInt (a * m) b = (m : Rat) * Rat.divInt a b := by
      rw [Rat.divInt_eq_div, Rat.divInt_eq_div, Rat.intCast_mul]
      grind
    walk_at "rdh"
    refine hv.tuple? ?_
    walk_at "rdh"
    cases hv with
    | non =>
      refine r_iteT rfl ?_
      exact k H (Same.refl _)
    | bl z =>
      refine r_iteT rfl ?_
      exact k H (Same.refl _)
    | int z =>
      refine r_iteT rfl ?_
      exact k H (Same.refl _)
    | str z =>
      refine r_iteT rfl ?_
      exact k H (Same.refl _)
    | lst _ _ _ _ =>
      refine r_iteT rfl ?_
      exact k H (Same.refl _)
    | dc0 _ =>
      refine r_iteT rfl ?_
      exact k H (Same.refl _)
    | dc1 _ _ =>
      refine r_iteT rfl ?_
      exact k H (Same.refl _)
    | @tup q vs ds hp hd =>
    have hlen := hd.len
    refine r_iteF rfl ?_
    walk_at "rdh"
    refine ⟨q, _, rfl, .inr (SqT.of hp), ?_⟩
    walk_at "rdh"
    refine r_ite (fun e => ?_) (fun e => ?_)
    · have g : goodS ((m : Rat) * Rat.divInt a b) (Rat.divInt a b) (.tuple ds) = false := by
        unfold goodS
        split
        · rename_i cc pp pap h
          injection h with h
          rw [h] at hlen
          rw [hlen] at e
          simp at e
        · rfl
      have := k H (Same.refl _)
      rw [g] at this
      exact this
    have e3 : vs.length = 3 := by
      have : (!decide ((vs.length : Int) = 3)) = false := e
      have z : (vs.length : Int) = 3 := by simpa using this
      omega
    cases hd with
    | nil => cases e3
    | @cons v0 x0 _ _ hv0 hd =>
    cases hd with
    | nil => cases e3
    | @cons v1 x1 _ _ hv1 hd =>
    cases hd with
    | nil => cases e3
    | @cons v2 x2 _ _ hv2 hd =>
    cases hd with
    | cons _ _ => simp at e3
    | nil =>
    walk_at "rdh"
    refine r_ixT hp (atI_nat (j := 0) rfl) ?_
    walk_at "rdh"
    refine ⟨d, c, v0, x0, rfl, hv0, ?_⟩
    walk_at "rdh"
    refine r_ite (fun e => ?_) (fun e => ?_)
    · have g : goodS ((m : Rat) * Rat.divInt a b) (Rat.divInt a b) (.tuple [x0, x1, x2]) = false := by
        unfold goodS
        split
        · rename_i cc pp pap h
          injection h with h
          injection h with h0 h
          subst h0
          cases e
        · rfl
      have := k H (Same.refl _)
      rw [g] at this
      exact this
    obtain ⟨cn, rfl⟩ : ∃ b, x0 = .int b := by cases x0 <;> first | exact ⟨_, rfl⟩ | cases e
    cases hv0
    walk_at "rdh"
    refine r_ixT hp (atI_nat (j := 1) rfl) ?_
    walk_at "rdh"
    refine ⟨d, c, v1, x1, rfl, hv1, ?_⟩
    walk_at "rdh"
    refine r_ite (fun e => ?_) (fun e => ?_)
    · have g : goodS ((m : Rat) * Rat.divInt a b) (Rat.divInt a b) (.tuple [.int cn, x1, x2]) = false := by
        unfold goodS
        split
        · rename_i cc pp pap h
          injection h with h
          injection h with h0 h
          injection h with h1 h
          subst h1
          cases e
        · rfl
      have := k H (Same.refl _)
      rw [g] at this
      exact this
    obtain ⟨pl, rfl⟩ : ∃ b, x1 = .int b := by cases x1 <;> first | exact ⟨_, rfl⟩ | cases e
    cases hv1
    have cnb : cn.natAbs < 2 ^ 300 ∧ fnB 300 x2 = true := by
      have : (decide (cn.natAbs < 2 ^ 300) && (decide (pl.natAbs < 2 ^ 300) && (fnB 300 x2 && true))) = true := f3
      simp only [Bool.and_eq_true, decide_eq_true_eq, Bool.and_true] at this
      exact ⟨this.1, this.2.2⟩
    have ee : goodS ((m : Rat) * Rat.divInt a b) (Rat.divInt a b) (.tuple [.int cn, .int pl, x2]) = ((decide (0 ≤ pl) && decide (pl ≤ 60)) && (backQ cn pl ((m : Rat) * Rat.divInt a b) (Rat.divInt a b) && if pl = 0 then isNon x2 else goodP ((m : Rat) * Rat.divInt a b) (Rat.divInt a b) (pl - 1) x2)) := rfl
    walk_at "rdh"
    refine r_gTup hp rfl ?_
    walk_at "rdh"
    refine r_chain ?_
    walk_at "rdh"
    have out : ∀ H', Same H H' → (0 ≤ pl → ¬ pl ≤ 40) → Q (.bl false) H' := fun H' s h => by
      have := k H' s
      by_cases z : 0 ≤ pl
      · rw [goodS_far y0 rfl fine (by have := h z; omega)] at this
        exact this
      · rw [ee, decide_eq_false z] at this
        exact this
    refine r_ite (fun e0 => ?_) (fun e0 => ?_)
    rotate_left
    · refine ⟨_, rfl, r_iteT rfl ?_⟩
      walk_at "rdh"
      exact out H (Same.refl _) (fun z => absurd z (of_decide_eq_false e0))
    have pl0 : 0 ≤ pl := of_decide_eq_true e0
    walk_at "rdh"
    refine r_ite (fun e1 => ?_) (fun e1 => ?_)
    · walk_at "rdh"
      exact out H (Same.refl _) (fun _ => of_decide_eq_false (of_nt e1))
    have pl1 : pl ≤ 40 := of_decide_eq_true (of_nf e1)
    rw [ee, decide_eq_true pl0, decide_eq_true (show pl ≤ 60 by omega)] at k
    simp only [Bool.true_and] at k
    walk_at "rdh"
    refine r_new (by show 2 ≤ 1000; decide) fun p0 q0 => ?_
    have s0 := Same.new (o := .tup [.int 1, .int 1]) q0
    refine r_gTup upd_same rfl ?_
    walk_at "rdh"
    refine r_rng1 ?_
    walk_at "rdh"
    refine ⟨pl, rfl, by omega, by omega, for_range (lo := 0) (n := pl.toNat) (fun i σ H' => ∃ v8 : Option V, σ = [some (.ref kp), some (.ref g), some (.ref q), some (.int cn), some (.int pl), some v2, some (.int (10 ^ i)), some (.int (fewerOf (i : Int))), v8, none] ∧ H' = upd H p0 (.tup [.int 1, .int 1])) ⟨none, rfl, rfl⟩ ?_ ?_⟩
    · rintro i σ H1 hi ⟨v8, rfl, rfl⟩
      walk_at "rdh"
      have e1 : (10 : Int) * 10 ^ i = 10 ^ (i + 1) := by rw [Int.pow_succ, Int.mul_comm]
      have e2 : fewerOf ((i + 1 : Nat) : Int) = 10 ^ i := by
        unfold fewerOf
        rw [if_neg (by omega)]
        congr 1
        omega
      rw [e1, e2]
      exact ⟨_, rfl, rfl⟩
    · rintro σ H1 ⟨v8, rfl, rfl⟩
      rw [Int.toNat_of_nonneg pl0]
      have hk0 := s0 _ _ hk
      have hg0 := s0 _ _ hg
      have hv0 := hv2.same s0
      generalize upd H p0 (.tup [.int 1, .int 1]) = H1 at *
      walk_at "rdh"
      refine ⟨kp, g, cn, pl, a, b, m, rfl, hk0, hg0, ha, hb, Nat.lt_of_lt_of_le cnb.1 (by decide), ⟨pl0, pl1⟩, fun H2 s2 => ?_⟩
      have s02 := s0.trans s2
      have hv2' := hv0.same s2
      walk_at "rdh"
      refine r_ite (fun e => ?_) (fun e => ?_)
      · rw [of_nt e] at k
        walk_at "rdh"
        exact k _ s02
      rw [of_nf e] at k
      simp only [Bool.true_and] at k
      walk_at "rdh"
      refine r_ite (fun e => ?_) (fun e => ?_)
      · rw [if_pos (of_decide_eq_true e)] at k
        refine r_iteT rfl ?_
        walk_at "rdh"
        refine r_iteT e ?_
        walk_at "rdh"
        refine r_isN (isNon_dec hv2') ?_
        exact k _ s02
      have pz : pl ≠ 0 := of_decide_eq_false e
      rw [if_neg pz] at k
      walk_at "rdh"
      refine ⟨rfl, ?_⟩
      rw [isNon_dec hv2']
      walk_at "rdh"
      refine r_ite (fun en => ?_) (fun en => ?_)
      · walk_at "rdh"
        refine r_iteF e ?_
        have : goodP ((m : Rat) * Rat.divInt a b) (Rat.divInt a b) (pl - 1) x2 = false := by cases x2 <;> first | rfl | cases en
        rw [this] at k
        exact k _ s02
      walk_at "rdh"
      refine hv2'.tuple? ?_
      walk_at "rdh"
      have pap : isPap x2 = false → ∀ H', Same H H' → Q (.bl false) H' := fun h H' s => by
        have := k H' s
        rw [goodP_pap h] at this
        exact this
      cases hv2' with
      | non => cases en
      | bl z =>
        refine r_iteT rfl ?_
        walk_at "rdh"
        exact pap rfl _ s02
      | int z =>
        refine r_iteT rfl ?_
        walk_at "rdh"
        exact pap rfl _ s02
      | str z =>
        refine r_iteT rfl ?_
        walk_at "rdh"
        exact pap rfl _ s02
      | lst _ _ _ _ =>
        refine r_iteT rfl ?_
        walk_at "rdh"
        exact pap rfl _ s02
      | dc0 _ =>
        refine r_iteT rfl ?_
        walk_at "rdh"
        exact pap rfl _ s02
      | dc1 _ _ =>
        refine r_iteT rfl ?_
        walk_at "rdh"
        exact pap rfl _ s02
      | @tup r us es hp2 hd2 =>
      have hlen2 := hd2.len
      refine r_iteF rfl ?_
      walk_at "rdh"
      refine ⟨r, _, rfl, .inr (SqT.of hp2), ?_⟩
      walk_at "rdh"
      refine r_ite (fun e => ?_) (fun e => ?_)
      · walk_at "rdh"
        refine pap ?_ _ s02
        unfold isPap
        split
        · rename_i b a h
          injection h with h
          rw [hlen2, h] at e
          simp at e
        · rfl
      have e2 : us.length = 2 := by
        have : (!decide ((us.length : Int) = 2)) = false := e
        have z : (us.length : Int) = 2 := by simpa using this
        omega
      cases hd2 with
      | nil => cases e2
      | @cons w0 z0 _ _ hw0 hd2 =>
      cases hd2 with
      | nil => cases e2
      | @cons w1 z1 _ _ hw1 hd2 =>
      cases hd2 with
      | cons _ _ => simp at e2
      | nil =>
      walk_at "rdh"
      refine r_ixT hp2 (atI_nat (j := 0) rfl) ?_
      walk_at "rdh"
      refine ⟨d, c, w0, z0, rfl, hw0, ?_⟩
      walk_at "rdh"
      refine r_ite (fun e => ?_) (fun e => ?_)
      · walk_at "rdh"
        refine pap ?_ _ s02
        unfold isPap
        split
        · rename_i b a h
          injection h with h
          injection h with h0 h
          subst h0
          cases e
        · rfl
      obtain ⟨b0, rfl⟩ : ∃ b, z0 = .int b := by cases z0 <;> first | exact ⟨_, rfl⟩ | cases e
      cases hw0
      walk_at "rdh"
      refine r_ixT hp2 (atI_nat (j := 1) rfl) ?_
      walk_at "rdh"
      refine ⟨d, c, w1, z1, rfl, hw1, ?_⟩
      walk_at "rdh"
      refine r_ite (fun e => ?_) (fun e => ?_)
      · walk_at "rdh"
        refine pap ?_ _ s02
        unfold isPap
        split
        · rename_i b a h
          injection h with h
          injection h with h0 h
          injection h with h1 h
          subst h1
          cases e
        · rfl
      obtain ⟨a0, rfl⟩ : ∃ b, z1 = .int b := by cases z1 <;> first | exact ⟨_, rfl⟩ | cases e
      cases hw1
      have hk2 := s2 _ _ hk0
      have hg2 := s2 _ _ hg0
      rw [goodP_low] at k
      have fe : fewerOf pl = 10 ^ (pl - 1).toNat := by unfold fewerOf; rw [if_neg pz]
      have fb : (10 ^ (pl - 1).toNat : Int).natAbs < 2 ^ 140 := tens40 (by omega)
      have fz : ((pl - 1).toNat : Int) = pl - 1 := Int.toNat_of_nonneg (by omega)
      have fl := T10_floor (k0 := a * m) hb.1 (pl - 1).toNat
      have fi := T10_int (k0 := a * m) hb.1 (pl - 1).toNat
      rw [fz, hx] at fl fi
      rw [fe]
      walk_at "rdh"
      refine r_ixT hk2 (atI_nat (j := 0) rfl) ?_
      walk_at "rdh"
      refine r_I (wide_mul (a := 58) (b := 140) k0b fb (by decide) (by decide) (by decide)) ?_
      walk_at "rdh"
      refine r_ixT hk2 (atI_nat (j := 1) rfl) ?_
      walk_at "rdh"
      refine r_I (wide_div hb.1 (lt9000 (by omega)) (by decide) (Nat.le_refl _)) ?_
      walk_at "rdh"
      have lb : (a * m * 10 ^ (pl - 1).toNat / b).natAbs < 2 ^ 198 := Nat.lt_of_le_of_lt (Int.natAbs_ediv_le_natAbs _ _) (natAbs_mul_lt (m := 58) (n := 140) k0b fb (by decide))
      rw [fl] at k fi
      have fi' : decide (a * m * 10 ^ (pl - 1).toNat / b * b = a * m * 10 ^ (pl - 1).toNat) = decide (((a * m * 10 ^ (pl - 1).toNat / b : Int) : Rat) = (m : Rat) * Rat.divInt a b * T10 (pl - 1)) := by
        rw [decide_eq_decide]
        exact fi
      rw [← fi'] at k
      generalize a * m * 10 ^ (pl - 1).toNat / b = lw at *
      refine r_new (by show 2 ≤ 1000; decide) fun p3 q3 => ?_
      have s3 := Same.new (o := .tup [.int lw, .int (lw + 1)]) q3
      have s03 := s02.trans s3
      have ev : PyData.eqv (.tuple [.int b0, .int a0]) (.tuple [.int lw, .int (lw + 1)]) = (decide (b0 = lw) && decide (a0 = lw + 1)) := by
        simp [PyData.eqv, PyData.eqvAll, Bool.beq_eq_decide_eq]
      refine ⟨.tuple [.int b0, .int a0], .tuple [.int lw, .int (lw + 1)], .tup (SqT.of (s3 _ _ hp2)) (.cons (.int _) (.cons (.int _) .nil)), .tup (SqT.of upd_same) (.cons (.int _) (.cons (.int _) .nil)), sh2 _ _, sh2 _ _, ?_⟩
      rw [ev]
      have ec : (decide (b0 = lw) && decide (a0 = b0 + 1)) = (decide (b0 = lw) && decide (a0 = lw + 1)) := by
        by_cases z : b0 = lw
        · subst z; rfl
        · rw [decide_eq_false z]; rfl
      rw [ec] at k
      walk_at "rdh"
      refine r_ite (fun e => ?_) (fun e => ?_)
      · rw [of_nt e, Bool.false_and] at k
        walk_at "rdh"
        exact k _ s03
      have e' := of_nf e
      rw [e', Bool.true_and] at k
      rw [Bool.and_eq_true] at e'
      obtain rfl : b0 = lw := of_decide_eq_true e'.1
      obtain rfl : a0 = b0 + 1 := of_decide_eq_true e'.2
      walk_at "rdh"
      refine r_ixT (s3 _ _ hk2) (atI_nat (j := 1) rfl) ?_
      walk_at "rdh"
      refine r_I (wide_mul (a := 198) (b := 38) lb (by omega) (by decide) (by decide) (by decide)) ?_
      walk_at "rdh"
      refine r_ixT (s3 _ _ hk2) (atI_nat (j := 0) rfl) ?_
      walk_at "rdh"
      refine r_I (wide_mul (a := 58) (b := 140) k0b fb (by decide) (by decide) (by decide)) ?_
      walk_at "rdh"
      refine r_ite (fun e => ?_) (fun e => ?_)
      · rw [e] at k
        walk_at "rdh"
        exact k _ s03
      rw [e] at k
      simp only [Bool.not_false, Bool.true_and] at k
      walk_at "rdh"
      refine ⟨kp, g, b0, pl - 1, a, b, m, rfl, s3 _ _ hk2, s3 _ _ hg2, ha, hb, Nat.lt_of_lt_of_le lb (by decide), ⟨by omega, by omega⟩, fun H4 s4 => ?_⟩
      walk_at "rdh"
      refine r_ite (fun e => ?_) (fun e => ?_)
      · rw [e, Bool.true_and] at k
        walk_at "rdh"
        refine ⟨kp, g, b0 + 1, pl - 1, a, b, m, rfl, s4 _ _ (s3 _ _ hk2), s4 _ _ (s3 _ _ hg2), ha, hb, by omega, ⟨by omega, by omega⟩, fun H5 s5 => ?_⟩
        walk_at "rdh"
        exact k _ ((s03.trans s4).trans s5)
      · rw [e, Bool.false_and] at k
        exact k _ (s03.trans s4)
end
end My

namespace My
open PySem L2
section
variable {P : Program} {w : World} {K : PySem.W.Frag} {mg : Str → Option Value} {base : Heap}
def spRight (C : Addr) : Sp := fun vs H Q _ => ∃ (d c he st kp g : Addr) (v : V) (th : PyData) (a b m : Int), vs = [.ref he, .ref st, .ref kp, .ref g, v] ∧ Dt d c H v th ∧ Fi 300 60 60 th ∧ NumAt C H he ((m : Rat) * Rat.divInt a b) ∧ NumAt C H st (Rat.divInt a b) ∧ H kp = some (.tup [.int (a * m), .int b]) ∧ H g = some (.tup [.int a, .int b]) ∧ (0 < a ∧ a < 2 ^ 38) ∧ (0 < b ∧ b < 2 ^ 38) ∧ m.natAbs < 2 ^ 20 ∧ ∀ H' : Hp, Same H H' → Q (.bl true) H'
theorem okG_l_right (T : Txt w K mg) : FnG P w K mg base 7 T.f_l_right T.fd_l_right ["_law_here", "_law_unit_step", "_law_kept_here", "_law_grain_here", "_law_thing"] (spRight T.C_Number) := by
  refine FnG.by_body T.F_l_right sc_l_right (fun vs H Q E h => ?_) (fun cdv A outer s H vs Q E hG hr h => ?_)
  · obtain ⟨d, c, he, st, kp, g, v, th, a, b, m, rfl, _⟩ := h
    rfl
  · obtain ⟨d, c, he, st, kp, g, v, th, a, b, m, rfl, hv, hf, hn, hs, hk, hg, ha, hb, mb, k⟩ := h
    refine ⟨_, (pss_cons (ps_set (i := 5) sc_l_right.nd rfl (Or.inl rfl) (pe_callB (call_reprQ hG hr.units) (by rfl) T.n_repr (by decide +kernel) (pa_cons (pv 4) pa_nil)))
 (pss_cons (ps_set (i := 6) sc_l_right.nd rfl (Or.inl rfl) (pe_call (ok_shortest_holds T) (hr.mono (by decide)) (by rfl) T.m_shortest_holds T.F_shortest_holds.kp T.b_shortest_holds .nil pass0 (pa_cons (pv 0) (pa_cons (pv 1) (pa_cons (pv 4) pa_nil)))))
 (pss_one (ps_ret (pe_and (pe_callB call_isi (by rfl) T.n_isinstance (by decide +kernel) (pa_cons (pv 6) (pa_cons (pe_bltn (v := .ty "bool") (by rfl) T.n_bool (by decide +kernel) rfl) pa_nil))) (pe_and (pe_cmpR op_eq (pv 6) (pe_call (ok_l_is_triple T) (hr.mono (by decide)) (by rfl) T.m_l_is_triple T.F_l_is_triple.kp T.b_l_is_triple .nil pass0 (pa_cons (pv 2) (pa_cons (pv 3) (pa_cons (pv 4) pa_nil)))) (nomark _)) (pe_one (pe_cmpR op_eq (pe_callB (call_reprQ hG hr.units) (by rfl) T.n_repr (by decide +kernel) (pa_cons (pv 4) pa_nil)) (pv 5) (nomark _))))))))), ?_⟩
    have y0 : 0 < Rat.divInt a b := divInt_pos ha.1 hb.1
    have by' : Bd 38 (Rat.divInt a b) := Bd.of (by omega) (by omega) (by omega)
    have bx : Bd 58 ((m : Rat) * Rat.divInt a b) := (Bd.int (n := 20) mb (by decide)).mul by'
    have f500 := fn_mono (show 300 ≤ 500 by decide) th hf.1
    walk_at "rdh"
    refine rd_reprQ hv f500 hf.2.1 hf.2.2 ?_
    walk_at "rdh"
    refine ⟨d, c, he, st, v, th, _, _, m, rfl, hv, fn_sm th f500, hn, hs, bx.mono (by decide), by'.mono (by decide), y0, rfl, fun H1 s1 => ?_⟩
    walk_at "rdh"
    refine Dt.bool? (d := d) (c := c) (.bl _) ?_
    walk_at "rdh"
    refine r_iteT rfl ?_
    walk_at "rdh"
    refine ⟨d, c, kp, g, v, th, a, b, m, rfl, hv.same s1, hf.1, s1 _ _ hk, s1 _ _ hg, ha, hb, mb, fun H2 s2 => ?_⟩
    walk_at "rdh"
    refine r_iteT (by simp) ?_
    walk_at "rdh"
    refine rd_reprQ (hv.same (s1.trans s2)) f500 hf.2.1 hf.2.2 ?_
    walk_at "rdh"
    have := k H2 (s1.trans s2)
    simpa using this
end
end My

namespace My
open PySem L2
/-! ### one thing is one thing; a longer list is none of its parts -/
theorem some_lst {H : Hp} {p : Addr} {a b : List V} (h : H p = some (.lst a)) (g : H p = some (.lst b)) : a = b := by
  rw [h] at g
  injection g with g
  injection g
theorem some_tup {H : Hp} {p : Addr} {a b : List V} (h : H p = some (.tup a)) (g : H p = some (.tup b)) : a = b := by
  rw [h] at g
  injection g with g
  injection g
mutual
theorem Dt.det {d c : Addr} {H : Hp} : ∀ {v : V} {x y : PyData}, Dt d c H v x → Dt d c H v y → x = y
  | _, _, _, .non, h => by cases h; rfl
  | _, _, _, .bl _, h => by cases h; rfl
  | _, _, _, .int _, h => by cases h; rfl
  | _, _, _, .str _, h => by cases h; rfl
  | _, _, _, .tup hp a, h => by
    cases h with
    | tup hq b =>
      have e := some_tup hp hq
      subst e
      rw [DtAll.det a b]
    | lst _ _ hq _ => rw [hp] at hq; cases hq
    | dc0 hq => rw [hp] at hq; cases hq
    | dc1 hq _ => rw [hp] at hq; cases hq
  | _, _, _, .lst _ _ hp a, h => by
    cases h with
    | tup hq b => rw [hp] at hq; cases hq
    | lst _ _ hq b =>
      have e := some_lst hp hq
      subst e
      rw [DtAll.det a b]
    | dc0 hq => rw [hp] at hq; cases hq
    | dc1 hq _ => rw [hp] at hq; cases hq
  | _, _, _, .dc0 hp, h => by
    cases h with
    | tup hq b => rw [hp] at hq; cases hq
    | lst _ _ hq b => rw [hp] at hq; cases hq
    | dc0 hq => rfl
    | dc1 hq _ => rw [hp] at hq; cases hq
  | _, _, _, .dc1 hp a, h => by
    cases h with
    | tup hq b => rw [hp] at hq; cases hq
    | lst _ _ hq b => rw [hp] at hq; cases hq
    | dc0 hq => rw [hp] at hq; cases hq
    | dc1 hq b =>
      rw [hp] at hq
      injection hq with hq
      injection hq with hq
      injection hq with hq _
      injection hq with h1 h2
      injection h1 with h1
      subst h1 h2
      rw [Dt.det a b]
theorem DtAll.det {d c : Addr} {H : Hp} : ∀ {vs : List V} {xs ys : List PyData}, DtAll d c H vs xs → DtAll d c H vs ys → xs = ys
  | _, _, _, .nil, h => by cases h; rfl
  | _, _, _, .cons a b, h => by
    cases h with
    | cons a' b' => rw [Dt.det a a', DtAll.det b b']
end
mutual
theorem Dt.skip {d c D : Addr} {H : Hp} {ws : List V} {zs : List PyData} {o : HO} (hD : H D = some (.lst ws)) (hz : DtAll d c H ws zs) : ∀ {v : V} {x : PyData}, Dt d c H v x → szQ x < szQs zs → Dt d c (upd H D o) v x
  | _, _, .non, _ => .non
  | _, _, .bl b, _ => .bl b
  | _, _, .int b, _ => .int b
  | _, _, .str b, _ => .str b
  | _, _, .tup hp a, l => .tup (by rw [upd_ne (ne_of hp hD (fun z => by cases z))]; exact hp) (DtAll.skip hD hz a l)
  | _, _, @Dt.lst _ _ _ p vs ds n1 n2 hp a, l => by
    have ne : p ≠ D := by
      intro e
      subst e
      have e := some_lst hp hD
      subst e
      have e2 := DtAll.det a hz
      subst e2
      exact Nat.lt_irrefl _ l
    exact .lst n1 n2 (by rw [upd_ne ne]; exact hp) (DtAll.skip hD hz a l)
  | _, _, .dc0 hp, _ => .dc0 (by rw [upd_ne (ne_of hp hD (fun z => by cases z))]; exact hp)
  | _, _, @Dt.dc1 _ _ _ p i v x hp a, l => by
    have l' : 0 + szQ x + 2 + 0 < szQs zs := l
    exact .dc1 (v := v) (by rw [upd_ne (ne_of hp hD (fun z => by cases z))]; exact hp) (Dt.skip hD hz a (by omega))
theorem DtAll.skip {d c D : Addr} {H : Hp} {ws : List V} {zs : List PyData} {o : HO} (hD : H D = some (.lst ws)) (hz : DtAll d c H ws zs) : ∀ {vs : List V} {xs : List PyData}, DtAll d c H vs xs → szQs xs < szQs zs → DtAll d c (upd H D o) vs xs
  | _, _, .nil, _ => .nil
  | _, _, @DtAll.cons _ _ _ v x vs xs a b, l => by
    have l' : szQ x + 1 + szQs xs < szQs zs := l
    exact .cons (Dt.skip hD hz a (by omega)) (DtAll.skip hD hz b (by omega))
end
/-- item by item -/
theorem DtAll.skips {d c D : Addr} {H : Hp} {ws : List V} {zs : List PyData} {o : HO} (hD : H D = some (.lst ws)) (hz : DtAll d c H ws zs) : ∀ {vs : List V} {xs : List PyData}, DtAll d c H vs xs → (∀ x ∈ xs, szQ x < szQs zs) → DtAll d c (upd H D o) vs xs
  | _, _, .nil, _ => .nil
  | _, _, .cons a b, l => .cons (Dt.skip hD hz a (l _ (List.mem_cons_self ..))) (DtAll.skips hD hz b fun x hx => l x (List.mem_cons_of_mem _ hx))
theorem DeckAt.upd {H : Hp} {d c m : Addr} {o : HO} (h : DeckAt H d c) (md : m ≠ d) (mc : m ≠ c) : DeckAt (upd H m o) d c := by
  obtain ⟨s, n, xs, h1, h2, h3, h4⟩ := h
  exact ⟨s, n, xs, by rw [upd_ne (Ne.symm md)]; exact h1, by rw [upd_ne (Ne.symm mc)]; exact h2, h3, h4⟩
def HowAt (H : Hp) (z : V) : Prop := ∃ (q : Addr) (h mo tw : Int), z = .ref q ∧ H q = some (.tup [.int h, .int mo, .int tw]) ∧ (0 ≤ h ∧ h < 10) ∧ (0 ≤ mo ∧ mo < 10)
structure Iv (C d c he st kp g t Dh D : Addr) (a b m : Int) (told : PyData) (zs : List V) (H : Hp) (vs : List V) (xs : List PyData) : Prop where
  dk : DeckAt H d c
  hn : NumAt C H he ((m : Rat) * Rat.divInt a b)
  hs : NumAt C H st (Rat.divInt a b)
  hk : H kp = some (.tup [.int (a * m), .int b])
  hg : H g = some (.tup [.int a, .int b])
  dt : Dt d c H (.ref t) told
  hh : H Dh = some (.lst zs)
  rows : ∀ z ∈ zs, HowAt H z
  hD : H D = some (.lst vs)
  all : DtAll d c H vs xs
  fit : ∀ x ∈ xs, Fi 300 29 6 x
  big : 60 < szQs xs
  tf : Fi 140 5 2 told
  n1 : Dh ≠ d ∧ Dh ≠ c
  n2 : D ≠ d ∧ D ≠ c
  n3 : Dh ≠ D
section
variable {C d c he st kp g t Dh D : Addr} {a b m : Int} {told : PyData} {zs : List V} {H : Hp} {vs : List V} {xs : List PyData}
theorem Iv.off {H' : Hp} (i : Iv C d c he st kp g t Dh D a b m told zs H vs xs) (o : Off d c H H') (dk : DeckAt H' d c) : Iv C d c he st kp g t Dh D a b m told zs H' vs xs where
  dk := dk
  hn := let ⟨dx, e⟩ := i.hn; ⟨dx, o.keep i.dk e (fun _ z => by cases z)⟩
  hs := let ⟨dx, e⟩ := i.hs; ⟨dx, o.keep i.dk e (fun _ z => by cases z)⟩
  hk := o.keep i.dk i.hk (fun _ z => by cases z)
  hg := o.keep i.dk i.hg (fun _ z => by cases z)
  dt := i.dt.off o i.dk
  hh := o _ _ i.n1.1 i.n1.2 i.hh
  rows := fun z hz => let ⟨q, h, mo, tw, e, hq, r⟩ := i.rows z hz; ⟨q, h, mo, tw, e, o.keep i.dk hq (fun _ z => by cases z), r⟩
  hD := o _ _ i.n2.1 i.n2.2 i.hD
  all := i.all.off o i.dk
  fit := i.fit
  big := i.big
  tf := i.tf
  n1 := i.n1
  n2 := i.n2
  n3 := i.n3
theorem Iv.add {v : V} {x : PyData} (i : Iv C d c he st kp g t Dh D a b m told zs H vs xs) (hv : Dt d c H v x) (fx : Fi 300 29 6 x) : Iv C d c he st kp g t Dh D a b m told zs (upd H D (.lst (vs ++ [v]))) (vs ++ [v]) (xs ++ [x]) where
  dk := i.dk.upd i.n2.1 i.n2.2
  hn := let ⟨dx, e⟩ := i.hn; ⟨dx, by rw [upd_ne (ne_of e i.hD (fun z => by cases z))]; exact e⟩
  hs := let ⟨dx, e⟩ := i.hs; ⟨dx, by rw [upd_ne (ne_of e i.hD (fun z => by cases z))]; exact e⟩
  hk := by rw [upd_ne (ne_of i.hk i.hD (fun z => by cases z))]; exact i.hk
  hg := by rw [upd_ne (ne_of i.hg i.hD (fun z => by cases z))]; exact i.hg
  dt := Dt.skip i.hD i.all i.dt (by have := i.big; have := i.tf.2.1; omega)
  hh := by rw [upd_ne i.n3]; exact i.hh
  rows := fun z hz => let ⟨q, h, mo, tw, e, hq, r⟩ := i.rows z hz; ⟨q, h, mo, tw, e, by rw [upd_ne (ne_of hq i.hD (fun z => by cases z))]; exact hq, r⟩
  hD := upd_same
  all := (DtAll.skips i.hD i.all i.all (fun y hy => by have := i.big; have := (i.fit y hy).2.1; omega)).app (.cons (Dt.skip i.hD i.all hv (by have := i.big; have := fx.2.1; omega)) .nil)
  fit := fun y hy => by
    rcases List.mem_append.mp hy with h | h
    · exact i.fit y h
    · obtain rfl := List.mem_singleton.mp h
      exact fx
  big := by rw [szQs_append]; have := i.big; omega
  tf := i.tf
  n1 := i.n1
  n2 := i.n2
  n3 := i.n3
end
theorem nearL_two' (u : Rat) : nearL u = u.floor ∨ nearL u = u.floor + 1 := by
  unfold nearL
  split
  · exact .inl rfl
  · split
    · exact .inr rfl
    · exact .inl rfl
theorem told_fit {a b m p : Int} {y : Rat} (y0 : 0 < y) (by' : Bd 38 y) (mb : m.natAbs < 2 ^ 20) (hb : y = Rat.divInt a b) (p0 : 0 ≤ p) (p1 : p ≤ 12) : Fi 140 5 2 (.tuple [.int (nearL ((m : Rat) * y * T10 p)), .int p, papD ((m : Rat) * y) p]) ∧ ∃ j, Fi 140 j 1 (papD ((m : Rat) * y) p) ∧ j ≤ 2 := by
  have bx : Bd 58 ((m : Rat) * y) := (Bd.int (n := 20) mb (by decide)).mul by'
  have near : ∀ q : Int, q.natAbs ≤ 12 → ((m : Rat) * y * T10 q).floor.natAbs < 2 ^ 108 := fun q hq => floor_bd ((bx.mul (T10_bd (k := 12) hq)).mono (by decide))
  have c0 : (nearL ((m : Rat) * y * T10 p)).natAbs < 2 ^ 140 := by
    have := near p (by omega)
    rcases nearL_two' ((m : Rat) * y * T10 p) with h | h <;> rw [h] <;> omega
  have pb : p.natAbs < 2 ^ 140 := by omega
  have pf : Fi 140 2 1 (papD ((m : Rat) * y) p) := by
    unfold papD
    split
    · exact Fi.non
    · have := near (p - 1) (by omega)
      exact (Fs.cons (Fi.int (n := 0) (m := 0) (by omega)) (Fs.one (Fi.int (n := 0) (m := 0) (by omega)))).tup
  exact ⟨(Fs.cons (Fi.int (n := 0) (m := 1) c0) (Fs.cons (Fi.int (n := 0) (m := 1) pb) (Fs.one pf))).tup.mono (Nat.le_refl _) (by omega) (by omega), 2, pf, Nat.le_refl _⟩
end My

namespace My
open PySem L2
section
variable {P : Program} {w : World} {K : PySem.W.Frag} {mg : Str → Option Value} {base : Heap}
theorem r_lcR {σ : L2.St} {H : Hp} {Q : VK} {te : TE} {tr : TA} {g : TG} {tt : TT} {vs : List Nat} (q : tr σ H fun xs H1 => ∃ j : Int, xs = [.int j] ∧ -(2 ^ 62) ≤ j ∧ j < 2 ^ 62 ∧ ∀ D, H1 D = none → ∃ W : Nat → Nat → Hp → Prop, (∃ m, W 0 m (upd H1 D (.lst []))) ∧ ∀ i m H, W i m H →
    ((Itr 0 j.toNat).stop i H ∧ Q (.ref D) H) ∨ ((Itr 0 j.toNat).go i H ∧ ∃ Nx : Hp → Prop, (∀ H', Nx H' → ∃ m', m' < m ∧ W (i + 1) m' H') ∧ ∀ x H', (Itr 0 j.toNat).yld i H x H' → g x (wipe σ vs) H' fun σ2 H2 => wipe σ2 vs = wipe σ vs ∧ tt σ2 H2 fun b H3 =>
      if b = true then te σ2 H3 fun y H4 => ∃ acc, H4 D = some (.lst acc) ∧ acc.length < sizeLine ∧ Nx (upd H4 D (.lst (acc ++ [y]))) else Nx H3)) : tLc (iRng1 tr) g tt te vs σ H Q := q
theorem r_append' {H : Hp} {Q : VK} {y : V} {p : Addr} {xs : List V} (h : H p = some (.lst xs)) (l : xs.length ≤ 100000) (q : Q .non (upd H p (.lst (xs ++ [y])))) : rAppend (.ref p) [y] H Q := ⟨p, xs, y, rfl, rfl, h, Nat.lt_of_le_of_lt l (by decide), q⟩
theorem Rw.addT {d c b : Addr} {H0 H H' : Hp} {vs : List V} {xs ys : List PyData} (r : Rw d c H0 H vs xs) (s : Same H H') (t : TpAt d c H' b ys) : Rw d c H0 H' (.ref b :: vs) (.tuple ys :: xs) := ⟨r.dk.same s, .cons t.dt (r.all.same s), r.off.trans (Off.of s)⟩
/-- the told triple, its paper, and what is made beside it -/
def things0 (c0 p : Int) (pd : PyData) : List PyData :=
  ([.tuple [.int c0, .int p, pd], .none, .tuple [], .tuple [.int c0, .int p], .tuple [.int c0, .int p, pd, .none], .list [.int c0, .int p, pd], .tuple [.tuple [.int c0, .int p, pd]], .str "", .int 0, .bool true]
    ++ [.tuple [.int c0, .int (10 ^ Int.toNat 39), .tuple [.int 0, .int 1]], .tuple [.int 0, .int (10 ^ Int.toNat 39), .none], .tuple [.int (10 ^ Int.toNat 39), .int 39, .tuple [.int 0, .int 1]], .tuple [.int 0, .int (-1), .none]])
    ++ [.tuple [.int c0, .int 60, .tuple [.int 0, .int 1]], .tuple [.int c0, .int 61, pd], .tuple [.int 0, .int 60, .none], .tuple [.int 0, .int 61, .tuple [.int 0, .int 1]]]
theorem things0_big {c0 p : Int} {pd : PyData} : 60 < szQs (things0 c0 p pd) := by
  simp only [things0, List.cons_append, List.nil_append, szQs, szQ]
  omega
theorem things0_fit {c0 p : Int} {pd : PyData} (hc : c0.natAbs < 2 ^ 140) (hp : p.natAbs < 2 ^ 140) (hd : Fi 140 2 1 pd) : ∀ x ∈ things0 c0 p pd, Fi 300 29 6 x := by
  have e39 : (10 : Int) ^ Int.toNat 39 = 1000000000000000000000000000000000000000 := rfl
  have I : ∀ {i : Int}, i.natAbs < 2 ^ 140 → Fi 300 0 1 (.int i) := fun h => Fi.int (Nat.lt_of_lt_of_le h (by decide))
  have ic := I hc
  have ip := I hp
  have i0 : Fi 300 0 1 (.int 0) := I (by decide)
  have i1 : Fi 300 0 1 (.int 1) := I (by decide)
  have ig : Fi 300 0 1 (.int (10 ^ Int.toNat 39)) := I (by rw [e39]; decide)
  have pd' : Fi 300 2 2 pd := hd.mono (by decide) (by decide) (by decide)
  have pp : Fi 300 2 2 (.tuple [.int 0, .int 1]) := (Fs.cons i0 (Fs.one i1)).tup
  have u : ∀ {i : Int} {m : Nat}, Fi 300 0 1 (.int i) → Fi 300 0 (m + 1) (.int i) := fun h => h.mono (by decide) (by decide) (by omega)
  have tt : ∀ {i j : Int} {z : PyData}, Fi 300 0 1 (.int i) → Fi 300 0 1 (.int j) → Fi 300 2 2 z → Fi 300 29 6 (.tuple [.int i, .int j, z]) := fun a b z =>
    (Fs.cons (u a) (Fs.cons (u b) (Fs.one z))).tup.mono (by decide) (by decide) (by decide)
  have told : Fi 300 5 3 (.tuple [.int c0, .int p, pd]) := (Fs.cons (u ic) (Fs.cons (u ip) (Fs.one pd'))).tup.mono (by decide) (by decide) (by decide)
  have nn : Fi 300 2 2 .none := Fi.non
  intro x hx
  unfold things0 at hx
  simp only [List.mem_append, List.mem_cons, List.not_mem_nil, or_false] at hx
  rcases hx with ((rfl | rfl | rfl | rfl | rfl | rfl | rfl | rfl | rfl | rfl) | rfl | rfl | rfl | rfl) | rfl | rfl | rfl | rfl
  · exact told.mono (by decide) (by decide) (by decide)
  · exact Fi.non
  · exact (Fs.nil (k := 300) (n := 0) (m := 0)).tup.mono (by decide) (by decide) (by decide)
  · exact (Fs.cons ic (Fs.one ip)).tup.mono (by decide) (by decide) (by decide)
  · exact (Fs.cons (u ic) (Fs.cons (u ip) (Fs.cons pd' (Fs.one (Fi.non (n := 0)))))).tup.mono (by decide) (by decide) (by decide)
  · exact (Fs.cons (u ic) (Fs.cons (u ip) (Fs.one pd'))).lst.mono (by decide) (by decide) (by decide)
  · exact (Fs.one told).tup.mono (by decide) (by decide) (by decide)
  · exact Fi.str (by decide +kernel)
  · exact i0.mono (by decide) (by decide) (by decide)
  · exact Fi.bl
  · exact tt ic ig pp
  · exact tt i0 ig nn
  · exact tt ig (I (by decide)) pp
  · exact tt i0 (I (by decide)) nn
  · exact tt ic (I (by decide)) pp
  · exact tt ic (I (by decide)) pd'
  · exact tt i0 (I (by decide)) nn
  · exact tt i0 (I (by decide)) pp
def spLaw (K : PySem.W.Frag) : Sp := fun vs H Q _ => ∃ (a : Addr) (ns : List Int), vs = [.ref a] ∧ SqL K H a (ns.map V.int) ∧ ns.length ≤ 63 ∧ ∀ H', Q (.bl true) H'
theorem okG_law (T : Txt w K mg) : FnG P w K mg base 13 T.f_law T.fd_law ["_law_script"] (spLaw K) := by
  refine FnG.by_body T.F_law sc_law (fun vs H Q E h => ?_) (fun cdv A outer s H vs Q E hG hr h => ?_)
  · obtain ⟨a, ns, rfl, _⟩ := h
    rfl
  · obtain ⟨aa, ns, rfl, hS, hl, k⟩ := h
    refine ⟨_, (pss_cons (ps_set (i := 1) sc_law.nd rfl (Or.inr rfl) (pe_call (ok_l_deck T) (hr.mono (by decide)) (by rfl) T.m_l_deck T.F_l_deck.kp T.b_l_deck .nil pass0 (pa_cons (pv 0) pa_nil)))
 (pss_cons (ps_for PassesOwn.never rfl (pi_range1 rfl T.n_range (pa_cons pe_int pa_nil)) (pg_name (i := 2) sc_law.nd rfl (Or.inl rfl))
  (pss_cons (ps_setLc (i := 3) (own := [("_law_k", 15)]) (g := gName 15) (tt := tYes) rfl sc_law.nd rfl rfl (sw_true rfl rfl rfl (by decide +kernel)) (pi_range1 rfl T.n_range (pa_cons pe_int pa_nil)) (blkOk_by (own := [("_law_k", 15)]) (N := ["_law_script", "_law_deck_here", "_law_turn", "_law_hows", "_law_grain_here", "_law_kept_here", "_law_here", "_law_unit_step", "_law_told", "_law_things", "_law_how", "_law_more", "_law_twice", "_law_bent_here", "_law_thing", "_law_k"]) (sc := defScope s_law) (by decide +kernel)) (fun _ _ _ _ _ => pg_name (i := 15) sc_law.nd rfl (Or.inl rfl)) (fun _ _ _ _ _ => pts_nil) (fun _ _ _ _ _ => (pe_tup (pa_cons (pe_call (ok_l_draw T) (hr.mono (by decide)) (by rfl) T.m_l_draw T.F_l_draw.kp T.b_l_draw .nil pass0 (pa_cons (pv 1) (pa_cons pe_int pa_nil))) (pa_cons (pe_call (ok_l_draw T) (hr.mono (by decide)) (by rfl) T.m_l_draw T.F_l_draw.kp T.b_l_draw .nil pass0 (pa_cons (pv 1) (pa_cons pe_int pa_nil))) (pa_cons (pe_call (ok_l_draw T) (hr.mono (by decide)) (by rfl) T.m_l_draw T.F_l_draw.kp T.b_l_draw .nil pass0 (pa_cons (pv 1) (pa_cons pe_int pa_nil))) pa_nil))))))
 (pss_cons (ps_set (i := 4) sc_law.nd rfl (Or.inl rfl) (pe_call (ok_l_grain T) (hr.mono (by decide)) (by rfl) T.m_l_grain T.F_l_grain.kp T.b_l_grain .nil pass0 (pa_cons (pv 1) pa_nil)))
 (pss_cons (ps_set (i := 5) sc_law.nd rfl (Or.inl rfl) (pe_call (ok_l_kept T) (hr.mono (by decide)) (by rfl) T.m_l_kept T.F_l_kept.kp T.b_l_kept .nil pass0 (pa_cons (pv 1) (pa_cons (pv 4) pa_nil))))
 (pss_cons (ps_par (i := 6) (j := 7) rfl sc_law.nd rfl rfl (by decide) rfl rfl (pa_cons (pe_make T.mk_Number (ok_Number_init T) (hr.mono (by decide)) (by rfl) T.m_Number T.b_Number_init2 .nil pass0 (pa_cons (pe_ix ix_tup (pv 5) pe_int (fun _ _ => rfl)) (pa_cons (pe_ix ix_tup (pv 5) pe_int (fun _ _ => rfl)) pa_nil))) (pa_cons (pe_make T.mk_Number (ok_Number_init T) (hr.mono (by decide)) (by rfl) T.m_Number T.b_Number_init2 .nil pass0 (pa_cons (pe_ix ix_tup (pv 4) pe_int (fun _ _ => rfl)) (pa_cons (pe_ix ix_tup (pv 4) pe_int (fun _ _ => rfl)) pa_nil))) pa_nil)) (by rfl))
 (pss_cons (ps_set (i := 8) sc_law.nd rfl (Or.inl rfl) (pe_call (ok_shortest T) (hr.mono (by decide)) (by rfl) T.m_shortest T.F_shortest.kp T.b_shortest .nil pass0 (pa_cons (pv 6) (pa_cons (pv 7) pa_nil))))
 (pss_cons (ps_set (i := 9) sc_law.nd rfl (Or.inl rfl) (pe_lst (pa_cons (pv 8) (pa_cons pe_non (pa_cons (pe_tup pa_nil) (pa_cons (pe_slice sl_tupA (pv 8) po_none (po_some pe_int)) (pa_cons (pe_op op_catA (pv 8) (pe_tup (pa_cons pe_non pa_nil))) (pa_cons (pe_lst (pa_cons (pe_ix ix_tup (pv 8) pe_int (fun _ _ => rfl)) (pa_cons (pe_ix ix_tup (pv 8) pe_int (fun _ _ => rfl)) (pa_cons (pe_ix ix_tup (pv 8) pe_int (fun _ _ => rfl)) pa_nil)))) (pa_cons (pe_tup (pa_cons (pv 8) pa_nil)) (pa_cons pe_str (pa_cons pe_int (pa_cons pe_bl pa_nil))))))))))))
 (pss_cons (ps_set (i := 9) sc_law.nd rfl (Or.inl rfl) (pe_op op_cat (pv 9) (pe_lst (pa_cons (pe_tup (pa_cons (pe_ix ix_tup (pv 8) pe_int (fun _ _ => rfl)) (pa_cons (pe_op op_pow pe_int pe_int) (pa_cons (pe_tup (pa_cons pe_int (pa_cons pe_int pa_nil))) pa_nil)))) (pa_cons (pe_tup (pa_cons pe_int (pa_cons (pe_op op_pow pe_int pe_int) (pa_cons pe_non pa_nil)))) (pa_cons (pe_tup (pa_cons (pe_op op_pow pe_int pe_int) (pa_cons pe_int (pa_cons (pe_tup (pa_cons pe_int (pa_cons pe_int pa_nil))) pa_nil)))) (pa_cons (pe_tup (pa_cons pe_int (pa_cons (pe_un un_neg pe_int) (pa_cons pe_non pa_nil)))) pa_nil)))))))
 (pss_cons (ps_set (i := 9) sc_law.nd rfl (Or.inl rfl) (pe_op op_cat (pv 9) (pe_lst (pa_cons (pe_tup (pa_cons (pe_ix ix_tup (pv 8) pe_int (fun _ _ => rfl)) (pa_cons pe_int (pa_cons (pe_tup (pa_cons pe_int (pa_cons pe_int pa_nil))) pa_nil)))) (pa_cons (pe_tup (pa_cons (pe_ix ix_tup (pv 8) pe_int (fun _ _ => rfl)) (pa_cons pe_int (pa_cons (pe_ix ix_tup (pv 8) pe_int (fun _ _ => rfl)) pa_nil)))) (pa_cons (pe_tup (pa_cons pe_int (pa_cons pe_int (pa_cons pe_non pa_nil)))) (pa_cons (pe_tup (pa_cons pe_int (pa_cons pe_int (pa_cons (pe_tup (pa_cons pe_int (pa_cons pe_int pa_nil))) pa_nil)))) pa_nil)))))))
 (pss_cons (ps_for PassesOwn.never rfl (pi_list (pv 3)) (pg_tup rfl (pgs_cons (pg_name (i := 10) sc_law.nd rfl (Or.inl rfl)) (pgs_cons (pg_name (i := 11) sc_law.nd rfl (Or.inl rfl)) (pgs_cons (pg_name (i := 12) sc_law.nd rfl (Or.inl rfl)) pgs_nil))))
  (pss_cons (ps_set (i := 13) sc_law.nd rfl (Or.inl rfl) (pe_call (ok_l_bent T) (hr.mono (by decide)) (by rfl) T.m_l_bent T.F_l_bent.kp T.b_l_bent .nil pass0 (pa_cons (pv 1) (pa_cons (pv 8) (pa_cons (pv 10) pa_nil)))))
 (pss_cons (ps_if (pt_cmpR op_eq (pv 12) pe_int (nomark _))
  (pss_one (ps_set (i := 13) sc_law.nd rfl (Or.inl rfl) (pe_call (ok_l_bent T) (hr.mono (by decide)) (by rfl) T.m_l_bent T.F_l_bent.kp T.b_l_bent .nil pass0 (pa_cons (pv 1) (pa_cons (pv 13) (pa_cons (pv 11) pa_nil))))))
  pss_nil)
 (pss_one (ps_expr (pe_bm PySem.F.plainAttrs_list PySem.F.slot_list_append PySem.F.type_list_append mt_append (pv 9) (pa_cons (pv 13) pa_nil)))))))
 (pss_one (ps_for PassesOwn.never rfl (pi_list (pe_op op_cat (pv 9) (pe_lst (pa_cons (pv 8) pa_nil)))) (pg_name (i := 14) sc_law.nd rfl (Or.inl rfl))
  (pss_one (ps_if (pt_not (pt_val (pe_callG hG (okG_l_right T) (hr.mono (by decide)) (by rfl) T.m_l_right T.F_l_right.kp T.b_l_right .nil pass0 (pa_cons (pv 6) (pa_cons (pv 7) (pa_cons (pv 5) (pa_cons (pv 4) (pa_cons (pv 14) pa_nil))))))))
  (pss_one (ps_ret pe_bl))
  pss_nil))))))))))))))
 (pss_one (ps_ret pe_bl)))), ?_⟩
    walk_at "rdh"
    refine ⟨aa, ns, rfl, hS, hl, fun d c H1 s1 dk => ?_⟩
    walk_at "rdh"
    refine r_rng1 ?_
    walk_at "rdh"
    refine ⟨10, rfl, by decide, by decide, for_range (lo := 0) (n := 10) (fun i σ H' => ∃ v2 v3 v4 v5 v6 v7 v8 v9 v10 v11 v12 v13 v14 v15 : Option V, σ = [some (.ref aa), some (.ref d), v2, v3, v4, v5, v6, v7, v8, v9, v10, v11, v12, v13, v14, v15] ∧ DeckAt H' d c)
      ⟨_, _, _, _, _, _, _, _, _, _, _, _, _, _, rfl, dk⟩ ?_ ?_⟩
    · rintro i σ H2 hi ⟨v2, v3, v4, v5, v6, v7, v8, v9, v10, v11, v12, v13, v14, v15, rfl, dk2⟩
      walk_at "rdh"
      refine r_lcR ?_
      walk_at "rdh"
      refine ⟨8, rfl, by decide, by decide, fun Dh hDh => ?_⟩
      obtain ⟨Dd, Dc⟩ := fresh_ne dk2 hDh
      refine lc_range (lo := 0) (n := 8) (fun j H' => DeckAt H' d c ∧ ∃ zs : List V, H' Dh = some (.lst zs) ∧ zs.length = j ∧ j ≤ 8 ∧ ∀ z ∈ zs, HowAt H' z)
        ⟨dk2.same (Same.new hDh), [], upd_same, rfl, by decide, fun z hz => by cases hz⟩ ?_ ?_
      · rintro j H4 hj ⟨dk4, zs, hz, lz, j8, rows⟩
        walk_at "rdh"
        refine ⟨rfl, ?_⟩
        refine r_tyes ?_
        walk_at "rdh"
        refine rd_draw dk4 (by decide) (by decide) fun q1 H5 o5 dk5 q10 q11 => ?_
        walk_at "rdh"
        refine rd_draw dk5 (by decide) (by decide) fun q2 H6 o6 dk6 q20 q21 => ?_
        walk_at "rdh"
        refine rd_draw dk6 (by decide) (by decide) fun q3 H7 o7 dk7 _ _ => ?_
        walk_at "rdh"
        refine r_new (by show 3 ≤ 1000; decide) fun t ht => ?_
        have hz7 := (o5.trans (o6.trans o7)) Dh _ Dd Dc hz
        have sn := Same.new (o := .tup [.int q1, .int q2, .int q3]) ht
        have hz8 := sn _ _ hz7
        refine ⟨zs, hz8, by rw [lz]; exact Nat.lt_of_le_of_lt j8 (by decide), (dk7.same sn).upd Dd Dc, zs ++ [.ref t], upd_same, by rw [List.length_append, lz]; rfl, by omega, fun z hz' => ?_⟩
        rcases List.mem_append.mp hz' with h | h
        · obtain ⟨q, h1, mo, tw, e, hq, r⟩ := rows z h
          have hq8 := sn _ _ ((o5.trans (o6.trans o7)).keep dk4 hq (fun _ z => by cases z))
          exact ⟨q, h1, mo, tw, e, by rw [upd_ne (ne_of hq8 hz8 (fun z => by cases z))]; exact hq8, r⟩
        · obtain rfl := List.mem_singleton.mp h
          exact ⟨t, q1, q2, q3, rfl, by rw [upd_ne (ne_of (H := upd H7 t (.tup [.int q1, .int q2, .int q3])) upd_same hz8 (fun z => by cases z))]; exact upd_same, ⟨q10, q11⟩, q20, q21⟩
      rintro H4 ⟨dk4, zs, hz, lz, _, rows⟩
      walk_at "rdh"
      refine ⟨d, c, rfl, dk4, fun g a b H5 o5 dk5 hg ha hb => ?_⟩
      walk_at "rdh"
      refine ⟨d, c, g, a, b, rfl, dk5, hg, ha, fun kp m H6 o6 dk6 hk mb => ?_⟩
      have o46 := o5.trans o6
      have hg6 := o6.keep dk5 hg (fun _ z => by cases z)
      have hz6 := o46 Dh _ Dd Dc hz
      have y0 : 0 < Rat.divInt a b := divInt_pos ha.1 hb.1
      have by' : Bd 38 (Rat.divInt a b) := Bd.of (by omega) (by omega) (by omega)
      have bx : Bd 58 ((m : Rat) * Rat.divInt a b) := (Bd.int (n := 20) mb (by decide)).mul by'
      have fine := fine_step ha.1 hb
      have hx : Rat.divInt (a * m) b = (m : Rat) * Rat.divInt a b := by
        rw [Rat.divInt_eq_div, Rat.divInt_eq_div, Rat.intCast_mul]
        grind
      walk_at "rdh"
      refine r_ixT hk (atI_nat (j := 0) rfl) ?_
      walk_at "rdh"
      refine r_ixT hk (atI_nat (j := 1) rfl) ?_
      walk_at "rdh"
      refine mk_num (by omega) (Nat.lt_of_lt_of_le (by omega : b.natAbs < 2 ^ 38) (Nat.pow_le_pow_right (by decide) (by decide))) fun he H7 s7 n7 h7 => ?_
      rw [hx] at h7
      walk_at "rdh"
      refine r_ixT (s7 _ _ hg6) (atI_nat (j := 0) rfl) ?_
      walk_at "rdh"
      refine r_ixT (s7 _ _ hg6) (atI_nat (j := 1) rfl) ?_
      walk_at "rdh"
      refine mk_num (by omega) (Nat.lt_of_lt_of_le (by omega : b.natAbs < 2 ^ 38) (Nat.pow_le_pow_right (by decide) (by decide))) fun st H8 s8 n8 h8 => ?_
      walk_at "rdh"
      refine rd_short (h7.same s8) h8 (bx.mono (by decide)) (by'.mono (by decide)) y0 rfl fun t p v H9 s9 hF p50 h9 hp9 => ?_
      have p0 := hF.1
      have p12 : p ≤ 12 := hF.le_lb (by decide) (lb_fine y0 rfl fine)
      have s69 := (s7.trans s8).trans s9
      have dk9 := dk6.same s69
      have hv9 : Dt d c H9 v (papD ((m : Rat) * Rat.divInt a b) p) := hp9.dt
      obtain ⟨tfit, _, pf1, pj⟩ := told_fit (a := a) (b := b) y0 by' mb rfl p0 p12
      have pfit := pf1.mono (Nat.le_refl _) pj (Nat.le_refl _)
      clear hp9 hF pf1
      generalize nearL ((m : Rat) * Rat.divInt a b * T10 p) = c0 at *
      generalize papD ((m : Rat) * Rat.divInt a b) p = pd at *
      have cpb : c0.natAbs < 2 ^ 140 ∧ p.natAbs < 2 ^ 140 := by
        have : (decide (c0.natAbs < 2 ^ 140) && (decide (p.natAbs < 2 ^ 140) && (fnB 140 pd && true))) = true := tfit.1
        simp only [Bool.and_eq_true, decide_eq_true_eq, Bool.and_true] at this
        exact ⟨this.1, this.2.1⟩
      have hz9 := s69 _ _ hz6
      have tT : TpAt d c H9 t [.int c0, .int p, pd] := ⟨_, h9, .cons (.int _) (.cons (.int _) (.cons hv9 .nil))⟩
      have R0 : Rw d c H9 H9 [.ref t, v] [.tuple [.int c0, .int p, pd], pd] := Rw.start dk9 (.cons tT.dt (.cons hv9 .nil))
      walk_at "rdh"
      refine r_new (by show 0 ≤ 1000; decide) fun p1 q1 => ?_
      have S1 := Same.new (o := .tup []) q1
      have R1 := R0.tup q1 .nil
      walk_at "rdh"
      refine sl_to (n := 2) (tT.same S1) rfl fun b1 H11 s11 u1 => ?_
      have S2 := S1.trans s11
      have R2 := R1.addT s11 u1
      walk_at "rdh"
      refine r_new (by show 1 ≤ 1000; decide) fun p2 q2 => ?_
      have S3 := S2.trans (Same.new (o := .tup [.non]) q2)
      have R3 := R2.tup q2 (.cons .non .nil)
      refine cat_t (fs := [.none]) (tT.same S3) ⟨_, upd_same, .cons .non .nil⟩ (by show 3 + 1 ≤ 100; decide) fun b2 H13 s13 u2 => ?_
      have S4 := S3.trans s13
      have R4 := R3.addT s13 u2
      walk_at "rdh"
      refine r_ixT (S4 _ _ h9) (atI_nat (j := 0) rfl) ?_
      walk_at "rdh"
      refine r_ixT (S4 _ _ h9) (atI_nat (j := 1) rfl) ?_
      walk_at "rdh"
      refine r_ixT (S4 _ _ h9) (atI_nat (j := 2) rfl) ?_
      walk_at "rdh"
      refine r_new (by show 3 ≤ 1000; decide) fun p3 q3 => ?_
      have S5 := S4.trans (Same.new (o := .lst [.int c0, .int p, v]) q3)
      have R5 := R4.lst q3 (.cons (.int c0) (.cons (.int p) (.cons (hv9.same S4) .nil)))
      walk_at "rdh"
      refine r_new (by show 1 ≤ 1000; decide) fun p4 q4 => ?_
      have S6 := S5.trans (Same.new (o := .tup [.ref t]) q4)
      have R6 := R5.tup q4 (.cons (tT.same S5).dt .nil)
      walk_at "rdh"
      refine r_new (by show 10 ≤ 1000; decide) fun l1 ql1 => ?_
      have S7 := S6.trans (Same.new (o := .lst [.ref t, .non, .ref p1, .ref b1, .ref b2, .ref p3, .ref p4, .str "", .int 0, .bl true]) ql1)
      have R7 := R6.keep (o := .lst [.ref t, .non, .ref p1, .ref b1, .ref b2, .ref p3, .ref p4, .str "", .int 0, .bl true]) ql1
      walk_at "rdh"
      refine r_ixT (S7 _ _ h9) (atI_nat (j := 0) rfl) ?_
      walk_at "rdh"
      refine r_new (by show 2 ≤ 1000; decide) fun p5 q5 => ?_
      have N5 := Same.new (o := .tup [.int 0, .int 1]) q5
      have R8 := R7.tup q5 (.cons (.int 0) (.cons (.int 1) .nil))
      walk_at "rdh"
      refine r_new (by show 3 ≤ 1000; decide) fun p6 q6 => ?_
      have N6 := Same.new (o := .tup [.int c0, .int (10 ^ Int.toNat 39), .ref p5]) q6
      have R9 := R8.tup q6 (.cons (.int c0) (.cons (.int (10 ^ Int.toNat 39)) (.cons R8.all.hd .nil)))
      walk_at "rdh"
      refine r_new (by show 3 ≤ 1000; decide) fun p7 q7 => ?_
      have N7 := Same.new (o := .tup [.int 0, .int (10 ^ Int.toNat 39), .non]) q7
      have R10 := R9.tup q7 (.cons (.int 0) (.cons (.int (10 ^ Int.toNat 39)) (.cons .non .nil)))
      walk_at "rdh"
      refine r_new (by show 2 ≤ 1000; decide) fun p8 q8 => ?_
      have N8 := Same.new (o := .tup [.int 0, .int 1]) q8
      have R11 := R10.tup q8 (.cons (.int 0) (.cons (.int 1) .nil))
      walk_at "rdh"
      refine r_new (by show 3 ≤ 1000; decide) fun p9 q9 => ?_
      have N9 := Same.new (o := .tup [.int (10 ^ Int.toNat 39), .int 39, .ref p8]) q9
      have R12 := R11.tup q9 (.cons (.int (10 ^ Int.toNat 39)) (.cons (.int 39) (.cons R11.all.hd .nil)))
      walk_at "rdh"
      refine r_new (by show 3 ≤ 1000; decide) fun p10 q10 => ?_
      have N10 := Same.new (o := .tup [.int 0, .int (-1), .non]) q10
      have R13 := R12.tup q10 (.cons (.int 0) (.cons (.int (-1)) (.cons .non .nil)))
      walk_at "rdh"
      refine r_new (by show 4 ≤ 1000; decide) fun l2 ql2 => ?_
      have N11 := Same.new (o := .lst [.ref p6, .ref p7, .ref p9, .ref p10]) ql2
      have R14 := R13.keep (o := .lst [.ref p6, .ref p7, .ref p9, .ref p10]) ql2
      have T14 := (((((N5.trans N6).trans N7).trans N8).trans N9).trans N10).trans N11
      refine r_cat (T14 _ _ upd_same) upd_same (by show 10 + 4 ≤ 100000; decide) fun f1 qf1 => ?_
      have S15 := S7.trans (T14.trans (Same.new (o := .lst ([.ref t, .non, .ref p1, .ref b1, .ref b2, .ref p3, .ref p4, .str "", .int 0, .bl true] ++ [.ref p6, .ref p7, .ref p9, .ref p10])) qf1))
      have R15 := R14.keep (o := .lst ([.ref t, .non, .ref p1, .ref b1, .ref b2, .ref p3, .ref p4, .str "", .int 0, .bl true] ++ [.ref p6, .ref p7, .ref p9, .ref p10])) qf1
      walk_at "rdh"
      refine r_ixT (S15 _ _ h9) (atI_nat (j := 0) rfl) ?_
      walk_at "rdh"
      refine r_new (by show 2 ≤ 1000; decide) fun p11 q11 => ?_
      have N16 := Same.new (o := .tup [.int 0, .int 1]) q11
      have R16 := R15.tup q11 (.cons (.int 0) (.cons (.int 1) .nil))
      walk_at "rdh"
      refine r_new (by show 3 ≤ 1000; decide) fun p12 q12 => ?_
      have N17 := N16.trans (Same.new (o := .tup [.int c0, .int 60, .ref p11]) q12)
      have R17 := R16.tup q12 (.cons (.int c0) (.cons (.int 60) (.cons R16.all.hd .nil)))
      walk_at "rdh"
      have S17 := S15.trans N17
      refine r_ixT (S17 _ _ h9) (atI_nat (j := 0) rfl) ?_
      walk_at "rdh"
      refine r_ixT (S17 _ _ h9) (atI_nat (j := 2) rfl) ?_
      walk_at "rdh"
      refine r_new (by show 3 ≤ 1000; decide) fun p13 q13 => ?_
      have N18 := N17.trans (Same.new (o := .tup [.int c0, .int 61, v]) q13)
      have R18 := R17.tup q13 (.cons (.int c0) (.cons (.int 61) (.cons (hv9.same S17) .nil)))
      walk_at "rdh"
      refine r_new (by show 3 ≤ 1000; decide) fun p14 q14 => ?_
      have N19 := N18.trans (Same.new (o := .tup [.int 0, .int 60, .non]) q14)
      have R19 := R18.tup q14 (.cons (.int 0) (.cons (.int 60) (.cons .non .nil)))
      walk_at "rdh"
      refine r_new (by show 2 ≤ 1000; decide) fun p15 q15 => ?_
      have N20 := N19.trans (Same.new (o := .tup [.int 0, .int 1]) q15)
      have R20 := R19.tup q15 (.cons (.int 0) (.cons (.int 1) .nil))
      walk_at "rdh"
      refine r_new (by show 3 ≤ 1000; decide) fun p16 q16 => ?_
      have N21 := N20.trans (Same.new (o := .tup [.int 0, .int 61, .ref p15]) q16)
      have R21 := R20.tup q16 (.cons (.int 0) (.cons (.int 61) (.cons R20.all.hd .nil)))
      walk_at "rdh"
      refine r_new (by show 4 ≤ 1000; decide) fun l3 ql3 => ?_
      have N22 := N21.trans (Same.new (o := .lst [.ref p12, .ref p13, .ref p14, .ref p16]) ql3)
      have R22 := R21.keep (o := .lst [.ref p12, .ref p13, .ref p14, .ref p16]) ql3
      refine r_cat (N22 _ _ upd_same) upd_same (by show 14 + 4 ≤ 100000; decide) fun D qD => ?_
      obtain ⟨D1, D2⟩ := fresh_ne R22.dk qD
      have SD := Same.new (o := .lst (([.ref t, .non, .ref p1, .ref b1, .ref b2, .ref p3, .ref p4, .str "", .int 0, .bl true] ++ [.ref p6, .ref p7, .ref p9, .ref p10]) ++ [.ref p12, .ref p13, .ref p14, .ref p16])) qD
      have R23 := R22.keep (o := .lst (([.ref t, .non, .ref p1, .ref b1, .ref b2, .ref p3, .ref p4, .str "", .int 0, .bl true] ++ [.ref p6, .ref p7, .ref p9, .ref p10]) ++ [.ref p12, .ref p13, .ref p14, .ref p16])) qD
      have S22 := S15.trans N22
      have hzD := S22 _ _ hz9
      have S23 := S22.trans SD
      have neD : Dh ≠ D := ne_of_none hzD qD
      have iv : Iv T.C_Number d c he st kp g t Dh D a b m (.tuple [.int c0, .int p, pd]) zs _ (([.ref t, .non, .ref p1, .ref b1, .ref b2, .ref p3, .ref p4, .str "", .int 0, .bl true] ++ [.ref p6, .ref p7, .ref p9, .ref p10]) ++ [.ref p12, .ref p13, .ref p14, .ref p16]) (things0 c0 p pd) := {
        dk := R23.dk
        hn := (h7.same (s8.trans s9)).same S23
        hs := (h8.same s9).same S23
        hk := S23 _ _ (s69 _ _ hk)
        hg := S23 _ _ (s69 _ _ hg6)
        dt := (tT.same S23).dt
        hh := S23 _ _ hz9
        rows := fun z hz' => by
          obtain ⟨q, h1, mo, tw, e, hq, r⟩ := rows z hz'
          exact ⟨q, h1, mo, tw, e, S23 _ _ (s69 _ _ (o46.keep dk4 hq (fun _ z => by cases z))), r⟩
        hD := upd_same
        all := by
          have a16 := R23.all
          have a15 := a16.tl
          have a14 := a15.tl
          have a13 := a14.tl
          have a12 := a13.tl
          have a11 := a12.tl
          have a10 := a11.tl
          have a9 := a10.tl
          have a8 := a9.tl
          have a7 := a8.tl
          have a6 := a7.tl
          have a5 := a6.tl
          have a4 := a5.tl
          have a3 := a4.tl
          have ab2 := a3.tl
          have a2 := ab2.tl
          have ab1 := a2.tl
          have a1 := ab1.tl
          have at' := a1.tl
          exact .cons at'.hd (.cons .non (.cons a1.hd (.cons ab1.hd (.cons ab2.hd (.cons a3.hd (.cons a4.hd (.cons (.str _) (.cons (.int _) (.cons (.bl _) (.cons a6.hd (.cons a7.hd (.cons a9.hd (.cons a10.hd (.cons a12.hd (.cons a13.hd (.cons a14.hd (.cons a16.hd .nil)))))))))))))))))
        fit := things0_fit cpb.1 cpb.2 pfit
        big := things0_big
        tf := tfit
        n1 := ⟨Dd, Dc⟩
        n2 := ⟨D1, D2⟩
        n3 := neD }
      have vl : (([V.ref t, .non, .ref p1, .ref b1, .ref b2, .ref p3, .ref p4, .str "", .int 0, .bl true] ++ [V.ref p6, .ref p7, .ref p9, .ref p10]) ++ [V.ref p12, .ref p13, .ref p14, .ref p16]).length ≤ 18 := by show 18 ≤ 18; decide
      walk_at "rdh"
      refine r_forL ?_
      walk_at "rdh"
      refine ⟨Dh, rfl, ⟨_, SqL.of iv.hh⟩, for_list (K := K) (a := Dh) (xs := zs) (fun j σ H' => ∃ (w10 w11 w12 w13 w14 w15 : Option V) (vs : List V) (xs : List PyData), σ = [some (.ref aa), some (.ref d), some (.int (0 + (i : Int))), some (.ref Dh), some (.ref g), some (.ref kp), some (.ref he), some (.ref st), some (.ref t), some (.ref D), w10, w11, w12, w13, w14, w15] ∧ Iv T.C_Number d c he st kp g t Dh D a b m (.tuple [.int c0, .int p, pd]) zs H' vs xs ∧ vs.length ≤ 18 + j)
        ⟨_, _, _, _, _, _, _, _, rfl, iv, vl⟩ (fun j σ H' _ ⟨_, _, _, _, _, _, _, _, _, iv, _⟩ => SqL.of iv.hh) ?_ ?_⟩
      · rintro j z σ H13 hzj ⟨w10, w11, w12, w13, w14, w15, vs, xs, rfl, iv, lv⟩
        have jl : j < 8 := by
          have := (List.getElem?_eq_some_iff.mp hzj).1
          omega
        obtain ⟨q, h1, mo, tw, rfl, hq, ⟨h10, h11⟩, m10, m11⟩ := iv.rows z (List.mem_of_getElem? hzj)
        refine r_gTup hq rfl ?_
        walk_at "rdh"
        refine bent_at iv.dk iv.dt iv.tf ⟨by decide, by decide, by decide, by decide, h10, h11⟩ fun v' x' H14 o14 dk14 hd14 f14 => ?_
        have iv14 := iv.off o14 dk14
        walk_at "rdh"
        refine r_ite (fun e => ?_) (fun e => ?_)
        · walk_at "rdh"
          refine bent_at dk14 hd14 f14 ⟨by decide, by decide, by decide, by decide, m10, m11⟩ fun v2 x2 H15 o15 dk15 hd15 f15 => ?_
          have iv15 := iv14.off o15 dk15
          walk_at "rdh"
          refine ⟨ty_list iv15.hD, ?_⟩
          walk_at "rdh"
          refine r_append' iv15.hD (by omega) ?_
          walk_at "rdh"
          exact ⟨_, _, _, _, _, _, _, _, rfl, iv15.add hd15 (f15.mono (by decide) (by decide) (by decide)), by rw [List.length_append]; show vs.length + 1 ≤ _; omega⟩
        · walk_at "rdh"
          refine ⟨ty_list iv14.hD, ?_⟩
          walk_at "rdh"
          refine r_append' iv14.hD (by omega) ?_
          walk_at "rdh"
          exact ⟨_, _, _, _, _, _, _, _, rfl, iv14.add hd14 (f14.mono (by decide) (by decide) (by decide)), by rw [List.length_append]; show vs.length + 1 ≤ _; omega⟩
      · rintro σ H13 ⟨w10, w11, w12, w13, w14, w15, vs, xs, rfl, iv, lv⟩
        have all13 : DtAll d c H13 (vs ++ [.ref t]) (xs ++ [.tuple [.int c0, .int p, pd]]) := iv.all.app (.cons iv.dt .nil)
        have fit13 : ∀ x ∈ xs ++ [.tuple [.int c0, .int p, pd]], Fi 300 60 60 x := fun x hx' => by
          rcases List.mem_append.mp hx' with h | h
          · exact (iv.fit x h).mono (by decide) (by decide) (by decide)
          · obtain rfl := List.mem_singleton.mp h
            exact tfit.mono (by decide) (by decide) (by decide)
        dsimp only
        refine r_forL ?_
        walk_at "rdh"
        refine r_new (by show 1 ≤ 1000; decide) fun l4 ql4 => ?_
        have M1 := Same.new (o := .lst [.ref t]) ql4
        refine r_cat (M1 _ _ iv.hD) upd_same (by show vs.length + 1 ≤ 100000; omega) fun f3 qf3 => ?_
        have M2 := M1.trans (Same.new (o := .lst (vs ++ [.ref t])) qf3)
        refine ⟨f3, rfl, ⟨_, SqL.of upd_same⟩, for_list (K := K) (a := f3) (xs := vs ++ [.ref t]) (fun j σ H' => ∃ (u14 u15 : Option V), σ = [some (.ref aa), some (.ref d), some (.int (0 + (i : Int))), some (.ref Dh), some (.ref g), some (.ref kp), some (.ref he), some (.ref st), some (.ref t), some (.ref D), w10, w11, w12, w13, u14, u15] ∧ Same H13 H' ∧ H' f3 = some (.lst (vs ++ [.ref t])))
          ⟨_, _, rfl, M2, upd_same⟩ (fun j σ H' _ ⟨_, _, _, _, h⟩ => SqL.of h) ?_ ?_⟩
        · rintro j z σ H14 hzj ⟨u14, u15, rfl, s14, hf⟩
          obtain ⟨th, hth, hdt⟩ := all13.get hzj
          have fth := fit13 th (List.mem_of_getElem? hth)
          walk_at "rdh"
          refine ⟨d, c, he, st, kp, g, z, th, a, b, m, rfl, hdt.same s14, fth, iv.hn.same s14, iv.hs.same s14, s14 _ _ iv.hk, s14 _ _ iv.hg, ha, hb, mb, fun H15 s15 => ?_⟩
          walk_at "rdh"
          refine r_iteF rfl ?_
          walk_at "rdh"
          exact ⟨_, _, rfl, s14.trans s15, s15 _ _ hf⟩
        · rintro σ H14 ⟨u14, u15, rfl, s14, _⟩
          walk_at "rdh"
          exact ⟨_, _, _, _, _, _, _, _, _, _, _, _, _, _, rfl, iv.dk.same s14⟩
    · rintro σ H2 ⟨v2, v3, v4, v5, v6, v7, v8, v9, v10, v11, v12, v13, v14, v15, rfl, dk2⟩
      walk_at "rdh"
      exact k _
end
end My

namespace My
open PySem L2
theorem kit_self {K : PySem.W.Frag} {C : Addr} : PySem.W.kitOne K (.ref C) (.ref C) = some true := if_pos (by simp)
theorem bi_Number_init {K : PySem.W.Frag} {f : Addr} {fd : FuncData} (F : FunD K "__init__" "Number.__init__" (defArgs s_Number_init) (defBody s_Number_init) (defScope s_Number_init) [V.int 1] [] f fd) :
    Binds K fd ["self", "top", "bottom"] [] ∧ ∃ ds : List Value, Vals [V.int 1] ds ∧ Binds K fd ["self", "top", "bottom"] ds := by
  constructor
  · obtain ⟨ds, r, b⟩ := F.binds1 (ps := ["self", "top", "bottom"]) 3 1 (by simp) rfl fun T kV doc pm an cdv ct us its h1 h2 => match us, its, h1, h2 with | [_, _, _], [_], _, _ => ⟨_, rfl, rfl⟩
    cases r
    exact b
  · exact F.binds1 (ps := ["self", "top", "bottom"]) 2 0 (by simp) rfl fun T kV doc pm an cdv ct us its h1 h2 => match us, its, h1, h2 with | [_, _], [_], _, _ => ⟨_, rfl, rfl⟩
theorem bi_rounded {K : PySem.W.Frag} {f : Addr} {fd : FuncData} (F : FunD K "rounded" "rounded" (defArgs s_rounded) (defBody s_rounded) (defScope s_rounded) [] [(("way" : Str), V.str "half even")] f fd) :
    KBn K fd ["number", "step", "way"] 2 ["way"] (fun us ws => us ++ ws) (fun vs zs => vs ++ zs) ∧ ∃ ds : List Value, Vals [V.str "half even"] ds ∧ Binds K fd ["number", "step", "way"] ds := by
  constructor
  · obtain ⟨oc, od, dV, kV, doc, pm, an, cdv, ct, osl, rfl, lk, hcd, hD, hK⟩ := F.ex
    rcases hD with ⟨_, rfl⟩ | ⟨e, _⟩
    · rcases hK with e | ⟨D, rfl, hq⟩
      · cases e
      · exact ⟨fun s us ws X h1 h2 => match us, ws, h1, h2 with | [_, _], [_], _, _ => .of_eq rfl, fun r1 r2 => r1.append r2⟩
    · exact absurd rfl e
  · exact F.binds0 (ps := ["number", "step", "way"]) 2 (by simp) rfl fun D doc pm an cdv ct us ks h1 h2 => match us, ks, h1, h2 with | [_, _], [_], _, _ => ⟨_, _, _, _, _, _, rfl, rfl, rfl⟩
theorem bi_round_paper {K : PySem.W.Frag} {f : Addr} {fd : FuncData} (F : FunD K "round_paper" "round_paper" (defArgs s_round_paper) (defBody s_round_paper) (defScope s_round_paper) [] [(("way" : Str), V.str "half even")] f fd) :
    KBn K fd ["number", "step", "way"] 2 ["way"] (fun us ws => us ++ ws) (fun vs zs => vs ++ zs) ∧ ∃ ds : List Value, Vals [V.str "half even"] ds ∧ Binds K fd ["number", "step", "way"] ds := by
  constructor
  · obtain ⟨oc, od, dV, kV, doc, pm, an, cdv, ct, osl, rfl, lk, hcd, hD, hK⟩ := F.ex
    rcases hD with ⟨_, rfl⟩ | ⟨e, _⟩
    · rcases hK with e | ⟨D, rfl, hq⟩
      · cases e
      · exact ⟨fun s us ws X h1 h2 => match us, ws, h1, h2 with | [_, _], [_], _, _ => .of_eq rfl, fun r1 r2 => r1.append r2⟩
    · exact absurd rfl e
  · exact F.binds0 (ps := ["number", "step", "way"]) 2 (by simp) rfl fun D doc pm an cdv ct us ks h1 h2 => match us, ks, h1, h2 with | [_, _], [_], _, _ => ⟨_, _, _, _, _, _, rfl, rfl, rfl⟩
theorem all_mk {l : PySem.W.OpenLaw} {w : World} {K : PySem.W.Frag} {h : Heap} {mg : Str → Option Value} {fa : Addr} (X : K.In h) (G : h.Ns mainGlobals mg) (hfa : mg "law" = some (.ref fa))
    {C_Number : Addr}
    {f_is_whole : Addr} {od_is_whole an_is_whole : Option Addr} {sl_is_whole : Array (Option Value)} {oc_is_whole dc_is_whole pm_is_whole cd_is_whole ct_is_whole : Value}
    {kV_is_whole : Value}
    {f_is_whole_between : Addr} {od_is_whole_between an_is_whole_between : Option Addr} {sl_is_whole_between : Array (Option Value)} {oc_is_whole_between dc_is_whole_between pm_is_whole_between cd_is_whole_between ct_is_whole_between : Value}
    {kV_is_whole_between : Value}
    {f_Number_init : Addr} {od_Number_init an_Number_init : Option Addr} {sl_Number_init : Array (Option Value)} {oc_Number_init dc_Number_init pm_Number_init cd_Number_init ct_Number_init : Value}
    {kV_Number_init : Value}
    {Td_Number_init : Addr} {cT_Number_init : Value} {dT_Number_init : Option Addr} {nT_Number_init : Nat} {sT_Number_init : Array (Option Value)} {tk_Number_init : Tok}
    {f_Number_eq : Addr} {od_Number_eq an_Number_eq : Option Addr} {sl_Number_eq : Array (Option Value)} {oc_Number_eq dc_Number_eq pm_Number_eq cd_Number_eq ct_Number_eq : Value}
    {kV_Number_eq : Value}
    {f_Number_less : Addr} {od_Number_less an_Number_less : Option Addr} {sl_Number_less : Array (Option Value)} {oc_Number_less dc_Number_less pm_Number_less cd_Number_less ct_Number_less : Value}
    {kV_Number_less : Value}
    {f_Number_times : Addr} {od_Number_times an_Number_times : Option Addr} {sl_Number_times : Array (Option Value)} {oc_Number_times dc_Number_times pm_Number_times cd_Number_times ct_Number_times : Value}
    {kV_Number_times : Value}
    {f_Number_over : Addr} {od_Number_over an_Number_over : Option Addr} {sl_Number_over : Array (Option Value)} {oc_Number_over dc_Number_over pm_Number_over cd_Number_over ct_Number_over : Value}
    {kV_Number_over : Value}
    {f_Number_below : Addr} {od_Number_below an_Number_below : Option Addr} {sl_Number_below : Array (Option Value)} {oc_Number_below dc_Number_below pm_Number_below cd_Number_below ct_Number_below : Value}
    {kV_Number_below : Value}
    {f_Number_size : Addr} {od_Number_size an_Number_size : Option Addr} {sl_Number_size : Array (Option Value)} {oc_Number_size dc_Number_size pm_Number_size cd_Number_size ct_Number_size : Value}
    {kV_Number_size : Value}
    {f_Number_floor : Addr} {od_Number_floor an_Number_floor : Option Addr} {sl_Number_floor : Array (Option Value)} {oc_Number_floor dc_Number_floor pm_Number_floor cd_Number_floor ct_Number_floor : Value}
    {kV_Number_floor : Value}
    {f_power_of : Addr} {od_power_of an_power_of : Option Addr} {sl_power_of : Array (Option Value)} {oc_power_of dc_power_of pm_power_of cd_power_of ct_power_of : Value}
    {kV_power_of : Value}
    {f_ten_to : Addr} {od_ten_to an_ten_to : Option Addr} {sl_ten_to : Array (Option Value)} {oc_ten_to dc_ten_to pm_ten_to cd_ten_to ct_ten_to : Value}
    {kV_ten_to : Value}
    {f_shortest_holds : Addr} {od_shortest_holds an_shortest_holds : Option Addr} {sl_shortest_holds : Array (Option Value)} {oc_shortest_holds dc_shortest_holds pm_shortest_holds cd_shortest_holds ct_shortest_holds : Value}
    {kV_shortest_holds : Value}
    {f_is_paper : Addr} {od_is_paper an_is_paper : Option Addr} {sl_is_paper : Array (Option Value)} {oc_is_paper dc_is_paper pm_is_paper cd_is_paper ct_is_paper : Value}
    {kV_is_paper : Value}
    {f_shows_none : Addr} {od_shows_none an_shows_none : Option Addr} {sl_shows_none : Array (Option Value)} {oc_shows_none dc_shows_none pm_shows_none cd_shows_none ct_shows_none : Value}
    {kV_shows_none : Value}
    {f_leads_back_shortchecks : Addr} {od_leads_back_shortchecks an_leads_back_shortchecks : Option Addr} {sl_leads_back_shortchecks : Array (Option Value)} {oc_leads_back_shortchecks dc_leads_back_shortchecks pm_leads_back_shortchecks cd_leads_back_shortchecks ct_leads_back_shortchecks : Value}
    {kV_leads_back_shortchecks : Value}
    {f_rounded : Addr} {od_rounded an_rounded : Option Addr} {sl_rounded : Array (Option Value)} {oc_rounded dc_rounded pm_rounded cd_rounded ct_rounded : Value}
    {Kd_rounded : Addr} {tw_rounded : Tok}
    {f_round_paper : Addr} {od_round_paper an_round_paper : Option Addr} {sl_round_paper : Array (Option Value)} {oc_round_paper dc_round_paper pm_round_paper cd_round_paper ct_round_paper : Value}
    {Kd_round_paper : Addr} {tw_round_paper : Tok}
    {f_place_of : Addr} {od_place_of an_place_of : Option Addr} {sl_place_of : Array (Option Value)} {oc_place_of dc_place_of pm_place_of cd_place_of ct_place_of : Value}
    {kV_place_of : Value}
    {f_by_up : Addr} {od_by_up an_by_up : Option Addr} {sl_by_up : Array (Option Value)} {oc_by_up dc_by_up pm_by_up cd_by_up ct_by_up : Value}
    {kV_by_up : Value}
    {f_by_down : Addr} {od_by_down an_by_down : Option Addr} {sl_by_down : Array (Option Value)} {oc_by_down dc_by_down pm_by_down cd_by_down ct_by_down : Value}
    {kV_by_down : Value}
    {f_by_high : Addr} {od_by_high an_by_high : Option Addr} {sl_by_high : Array (Option Value)} {oc_by_high dc_by_high pm_by_high cd_by_high ct_by_high : Value}
    {kV_by_high : Value}
    {f_by_low : Addr} {od_by_low an_by_low : Option Addr} {sl_by_low : Array (Option Value)} {oc_by_low dc_by_low pm_by_low cd_by_low ct_by_low : Value}
    {kV_by_low : Value}
    {f_by_half_up : Addr} {od_by_half_up an_by_half_up : Option Addr} {sl_by_half_up : Array (Option Value)} {oc_by_half_up dc_by_half_up pm_by_half_up cd_by_half_up ct_by_half_up : Value}
    {kV_by_half_up : Value}
    {f_by_half_down : Addr} {od_by_half_down an_by_half_down : Option Addr} {sl_by_half_down : Array (Option Value)} {oc_by_half_down dc_by_half_down pm_by_half_down cd_by_half_down ct_by_half_down : Value}
    {kV_by_half_down : Value}
    {f_by_half_even : Addr} {od_by_half_even an_by_half_even : Option Addr} {sl_by_half_even : Array (Option Value)} {oc_by_half_even dc_by_half_even pm_by_half_even cd_by_half_even ct_by_half_even : Value}
    {kV_by_half_even : Value}
    {f_by_half_odd : Addr} {od_by_half_odd an_by_half_odd : Option Addr} {sl_by_half_odd : Array (Option Value)} {oc_by_half_odd dc_by_half_odd pm_by_half_odd cd_by_half_odd ct_by_half_odd : Value}
    {kV_by_half_odd : Value}
    {f_nearer : Addr} {od_nearer an_nearer : Option Addr} {sl_nearer : Array (Option Value)} {oc_nearer dc_nearer pm_nearer cd_nearer ct_nearer : Value}
    {kV_nearer : Value}
    {f_shortest : Addr} {od_shortest an_shortest : Option Addr} {sl_shortest : Array (Option Value)} {oc_shortest dc_shortest pm_shortest cd_shortest ct_shortest : Value}
    {kV_shortest : Value}
    {f_fewest_places : Addr} {od_fewest_places an_fewest_places : Option Addr} {sl_fewest_places : Array (Option Value)} {oc_fewest_places dc_fewest_places pm_fewest_places cd_fewest_places ct_fewest_places : Value}
    {kV_fewest_places : Value}
    {f_leads_back_shortest : Addr} {od_leads_back_shortest an_leads_back_shortest : Option Addr} {sl_leads_back_shortest : Array (Option Value)} {oc_leads_back_shortest dc_leads_back_shortest pm_leads_back_shortest cd_leads_back_shortest ct_leads_back_shortest : Value}
    {kV_leads_back_shortest : Value}
    {f_nearest : Addr} {od_nearest an_nearest : Option Addr} {sl_nearest : Array (Option Value)} {oc_nearest dc_nearest pm_nearest cd_nearest ct_nearest : Value}
    {kV_nearest : Value}
    {f_is_greater_nearer : Addr} {od_is_greater_nearer an_is_greater_nearer : Option Addr} {sl_is_greater_nearer : Array (Option Value)} {oc_is_greater_nearer dc_is_greater_nearer pm_is_greater_nearer cd_is_greater_nearer ct_is_greater_nearer : Value}
    {kV_is_greater_nearer : Value}
    {f_l_deck : Addr} {od_l_deck an_l_deck : Option Addr} {sl_l_deck : Array (Option Value)} {oc_l_deck dc_l_deck pm_l_deck cd_l_deck ct_l_deck : Value}
    {kV_l_deck : Value}
    {f_l_draw : Addr} {od_l_draw an_l_draw : Option Addr} {sl_l_draw : Array (Option Value)} {oc_l_draw dc_l_draw pm_l_draw cd_l_draw ct_l_draw : Value}
    {kV_l_draw : Value}
    {f_l_grain : Addr} {od_l_grain an_l_grain : Option Addr} {sl_l_grain : Array (Option Value)} {oc_l_grain dc_l_grain pm_l_grain cd_l_grain ct_l_grain : Value}
    {kV_l_grain : Value}
    {f_l_steps : Addr} {od_l_steps an_l_steps : Option Addr} {sl_l_steps : Array (Option Value)} {oc_l_steps dc_l_steps pm_l_steps cd_l_steps ct_l_steps : Value}
    {kV_l_steps : Value}
    {f_l_count : Addr} {od_l_count an_l_count : Option Addr} {sl_l_count : Array (Option Value)} {oc_l_count dc_l_count pm_l_count cd_l_count ct_l_count : Value}
    {kV_l_count : Value}
    {f_l_kept : Addr} {od_l_kept an_l_kept : Option Addr} {sl_l_kept : Array (Option Value)} {oc_l_kept dc_l_kept pm_l_kept cd_l_kept ct_l_kept : Value}
    {kV_l_kept : Value}
    {f_l_whole : Addr} {od_l_whole an_l_whole : Option Addr} {sl_l_whole : Array (Option Value)} {oc_l_whole dc_l_whole pm_l_whole cd_l_whole ct_l_whole : Value}
    {kV_l_whole : Value}
    {f_l_leads : Addr} {od_l_leads an_l_leads : Option Addr} {sl_l_leads : Array (Option Value)} {oc_l_leads dc_l_leads pm_l_leads cd_l_leads ct_l_leads : Value}
    {kV_l_leads : Value}
    {f_l_is_triple : Addr} {od_l_is_triple an_l_is_triple : Option Addr} {sl_l_is_triple : Array (Option Value)} {oc_l_is_triple dc_l_is_triple pm_l_is_triple cd_l_is_triple ct_l_is_triple : Value}
    {kV_l_is_triple : Value}
    {f_l_odd : Addr} {od_l_odd an_l_odd : Option Addr} {sl_l_odd : Array (Option Value)} {oc_l_odd dc_l_odd pm_l_odd cd_l_odd ct_l_odd : Value}
    {kV_l_odd : Value}
    {f_l_bent : Addr} {od_l_bent an_l_bent : Option Addr} {sl_l_bent : Array (Option Value)} {oc_l_bent dc_l_bent pm_l_bent cd_l_bent ct_l_bent : Value}
    {kV_l_bent : Value}
    {f_l_right : Addr} {od_l_right an_l_right : Option Addr} {sl_l_right : Array (Option Value)} {oc_l_right dc_l_right pm_l_right cd_l_right ct_l_right : Value}
    {kV_l_right : Value}
    {f_law : Addr} {od_law an_law : Option Addr} {sl_law : Array (Option Value)} {oc_law dc_law pm_law cd_law ct_law : Value}
    {kV_law : Value}
    {t_c_MOST_PLACES : Tok}
    {D_RULES : Addr} {es_RULES : Array DictEntry} {en_RULES : Nat}
    (aC_Number : PySem.W.nsIn K mainGlobals "Number" = some (some (.ref C_Number)))
    (pg_Number : PySem.W.plainGet K C_Number Str.empty = true)
    (hd_Number : PySem.W.hasDictIn K C_Number = true)
    (po_Number : PySem.W.plainOver K C_Number = true)
    (sa_Number : PySem.W.findIn K (.ref C_Number) "__setattr__" = some (some (.builtin "object.__setattr__")))
    (nf_Number_top : PySem.W.findIn K (.ref C_Number) "top" = some none)
    (nf_Number_bottom : PySem.W.findIn K (.ref C_Number) "bottom" = some none)
    (tc_Number : PySem.W.findIn K (.ref C_Number) "__class__" = some (some (.builtin "object.__class__")))
    (tg_Number : PySem.W.specialIn K (.builtin "object.__class__") "__get__" = some (some (.builtin "getset_descriptor.__get__")))
    (tt_Number : PySem.W.takesIn K (.builtin "object.__class__") = some true)
    (tm_Number : PySem.W.mroIn K C_Number (.type "object") = some true)
    (nn_Number : PySem.W.findIn K (.ref C_Number) "__ne__" = some (some (.builtin "object.__ne__")))
    (mi_Number : PySem.W.makesIn K C_Number = true)
    (kc_Number : PySem.W.keepIn K (.ref C_Number) = true)
    (a_is_whole : PySem.W.nsIn K mainGlobals "is_whole" = some (some (.ref f_is_whole)))
    (l_is_whole : K.lookup f_is_whole = some ⟨oc_is_whole, od_is_whole, .func (PySem.W.fnOf "is_whole" "is_whole" (defArgs s_is_whole) (defBody s_is_whole) (defScope s_is_whole) .none kV_is_whole dc_is_whole pm_is_whole an_is_whole cd_is_whole ct_is_whole), sl_is_whole⟩)
    (c_is_whole : PySem.W.codeIn K cd_is_whole "is_whole" = true)
    (k_is_whole : PySem.W.keepIn K (.ref f_is_whole) = true)
    (a_is_whole_between : PySem.W.nsIn K mainGlobals "is_whole_between" = some (some (.ref f_is_whole_between)))
    (l_is_whole_between : K.lookup f_is_whole_between = some ⟨oc_is_whole_between, od_is_whole_between, .func (PySem.W.fnOf "is_whole_between" "is_whole_between" (defArgs s_is_whole_between) (defBody s_is_whole_between) (defScope s_is_whole_between) .none kV_is_whole_between dc_is_whole_between pm_is_whole_between an_is_whole_between cd_is_whole_between ct_is_whole_between), sl_is_whole_between⟩)
    (c_is_whole_between : PySem.W.codeIn K cd_is_whole_between "is_whole_between" = true)
    (k_is_whole_between : PySem.W.keepIn K (.ref f_is_whole_between) = true)
    (a_Number_init : PySem.W.findIn K (.ref C_Number) "__init__" = some (some (.ref f_Number_init)))
    (i_Number_init : PySem.W.isFn K (.ref f_Number_init) = true)
    (l_Number_init : K.lookup f_Number_init = some ⟨oc_Number_init, od_Number_init, .func (PySem.W.fnOf "__init__" "Number.__init__" (defArgs s_Number_init) (defBody s_Number_init) (defScope s_Number_init) (.ref Td_Number_init) kV_Number_init dc_Number_init pm_Number_init an_Number_init cd_Number_init ct_Number_init), sl_Number_init⟩)
    (c_Number_init : PySem.W.codeIn K cd_Number_init "Number.__init__" = true)
    (k_Number_init : PySem.W.keepIn K (.ref f_Number_init) = true)
    (T_Number_init : K.lookup Td_Number_init = some ⟨cT_Number_init, dT_Number_init, .seq #[.int 1 tk_Number_init] nT_Number_init, sT_Number_init⟩)
    (a_Number_eq : PySem.W.findIn K (.ref C_Number) "__eq__" = some (some (.ref f_Number_eq)))
    (i_Number_eq : PySem.W.isFn K (.ref f_Number_eq) = true)
    (l_Number_eq : K.lookup f_Number_eq = some ⟨oc_Number_eq, od_Number_eq, .func (PySem.W.fnOf "__eq__" "Number.__eq__" (defArgs s_Number_eq) (defBody s_Number_eq) (defScope s_Number_eq) .none kV_Number_eq dc_Number_eq pm_Number_eq an_Number_eq cd_Number_eq ct_Number_eq), sl_Number_eq⟩)
    (c_Number_eq : PySem.W.codeIn K cd_Number_eq "Number.__eq__" = true)
    (k_Number_eq : PySem.W.keepIn K (.ref f_Number_eq) = true)
    (a_Number_less : PySem.W.findIn K (.ref C_Number) "less" = some (some (.ref f_Number_less)))
    (i_Number_less : PySem.W.isFn K (.ref f_Number_less) = true)
    (l_Number_less : K.lookup f_Number_less = some ⟨oc_Number_less, od_Number_less, .func (PySem.W.fnOf "less" "Number.less" (defArgs s_Number_less) (defBody s_Number_less) (defScope s_Number_less) .none kV_Number_less dc_Number_less pm_Number_less an_Number_less cd_Number_less ct_Number_less), sl_Number_less⟩)
    (c_Number_less : PySem.W.codeIn K cd_Number_less "Number.less" = true)
    (k_Number_less : PySem.W.keepIn K (.ref f_Number_less) = true)
    (a_Number_times : PySem.W.findIn K (.ref C_Number) "times" = some (some (.ref f_Number_times)))
    (i_Number_times : PySem.W.isFn K (.ref f_Number_times) = true)
    (l_Number_times : K.lookup f_Number_times = some ⟨oc_Number_times, od_Number_times, .func (PySem.W.fnOf "times" "Number.times" (defArgs s_Number_times) (defBody s_Number_times) (defScope s_Number_times) .none kV_Number_times dc_Number_times pm_Number_times an_Number_times cd_Number_times ct_Number_times), sl_Number_times⟩)
    (c_Number_times : PySem.W.codeIn K cd_Number_times "Number.times" = true)
    (k_Number_times : PySem.W.keepIn K (.ref f_Number_times) = true)
    (a_Number_over : PySem.W.findIn K (.ref C_Number) "over" = some (some (.ref f_Number_over)))
    (i_Number_over : PySem.W.isFn K (.ref f_Number_over) = true)
    (l_Number_over : K.lookup f_Number_over = some ⟨oc_Number_over, od_Number_over, .func (PySem.W.fnOf "over" "Number.over" (defArgs s_Number_over) (defBody s_Number_over) (defScope s_Number_over) .none kV_Number_over dc_Number_over pm_Number_over an_Number_over cd_Number_over ct_Number_over), sl_Number_over⟩)
    (c_Number_over : PySem.W.codeIn K cd_Number_over "Number.over" = true)
    (k_Number_over : PySem.W.keepIn K (.ref f_Number_over) = true)
    (a_Number_below : PySem.W.findIn K (.ref C_Number) "below" = some (some (.ref f_Number_below)))
    (i_Number_below : PySem.W.isFn K (.ref f_Number_below) = true)
    (l_Number_below : K.lookup f_Number_below = some ⟨oc_Number_below, od_Number_below, .func (PySem.W.fnOf "below" "Number.below" (defArgs s_Number_below) (defBody s_Number_below) (defScope s_Number_below) .none kV_Number_below dc_Number_below pm_Number_below an_Number_below cd_Number_below ct_Number_below), sl_Number_below⟩)
    (c_Number_below : PySem.W.codeIn K cd_Number_below "Number.below" = true)
    (k_Number_below : PySem.W.keepIn K (.ref f_Number_below) = true)
    (a_Number_size : PySem.W.findIn K (.ref C_Number) "size" = some (some (.ref f_Number_size)))
    (i_Number_size : PySem.W.isFn K (.ref f_Number_size) = true)
    (l_Number_size : K.lookup f_Number_size = some ⟨oc_Number_size, od_Number_size, .func (PySem.W.fnOf "size" "Number.size" (defArgs s_Number_size) (defBody s_Number_size) (defScope s_Number_size) .none kV_Number_size dc_Number_size pm_Number_size an_Number_size cd_Number_size ct_Number_size), sl_Number_size⟩)
    (c_Number_size : PySem.W.codeIn K cd_Number_size "Number.size" = true)
    (k_Number_size : PySem.W.keepIn K (.ref f_Number_size) = true)
    (a_Number_floor : PySem.W.findIn K (.ref C_Number) "floor" = some (some (.ref f_Number_floor)))
    (i_Number_floor : PySem.W.isFn K (.ref f_Number_floor) = true)
    (l_Number_floor : K.lookup f_Number_floor = some ⟨oc_Number_floor, od_Number_floor, .func (PySem.W.fnOf "floor" "Number.floor" (defArgs s_Number_floor) (defBody s_Number_floor) (defScope s_Number_floor) .none kV_Number_floor dc_Number_floor pm_Number_floor an_Number_floor cd_Number_floor ct_Number_floor), sl_Number_floor⟩)
    (c_Number_floor : PySem.W.codeIn K cd_Number_floor "Number.floor" = true)
    (k_Number_floor : PySem.W.keepIn K (.ref f_Number_floor) = true)
    (a_power_of : PySem.W.nsIn K mainGlobals "power_of" = some (some (.ref f_power_of)))
    (l_power_of : K.lookup f_power_of = some ⟨oc_power_of, od_power_of, .func (PySem.W.fnOf "power_of" "power_of" (defArgs s_power_of) (defBody s_power_of) (defScope s_power_of) .none kV_power_of dc_power_of pm_power_of an_power_of cd_power_of ct_power_of), sl_power_of⟩)
    (c_power_of : PySem.W.codeIn K cd_power_of "power_of" = true)
    (k_power_of : PySem.W.keepIn K (.ref f_power_of) = true)
    (a_ten_to : PySem.W.nsIn K mainGlobals "ten_to" = some (some (.ref f_ten_to)))
    (l_ten_to : K.lookup f_ten_to = some ⟨oc_ten_to, od_ten_to, .func (PySem.W.fnOf "ten_to" "ten_to" (defArgs s_ten_to) (defBody s_ten_to) (defScope s_ten_to) .none kV_ten_to dc_ten_to pm_ten_to an_ten_to cd_ten_to ct_ten_to), sl_ten_to⟩)
    (c_ten_to : PySem.W.codeIn K cd_ten_to "ten_to" = true)
    (k_ten_to : PySem.W.keepIn K (.ref f_ten_to) = true)
    (a_shortest_holds : PySem.W.nsIn K mainGlobals "shortest_holds" = some (some (.ref f_shortest_holds)))
    (l_shortest_holds : K.lookup f_shortest_holds = some ⟨oc_shortest_holds, od_shortest_holds, .func (PySem.W.fnOf "shortest_holds" "shortest_holds" (defArgs s_shortest_holds) (defBody s_shortest_holds) (defScope s_shortest_holds) .none kV_shortest_holds dc_shortest_holds pm_shortest_holds an_shortest_holds cd_shortest_holds ct_shortest_holds), sl_shortest_holds⟩)
    (c_shortest_holds : PySem.W.codeIn K cd_shortest_holds "shortest_holds" = true)
    (k_shortest_holds : PySem.W.keepIn K (.ref f_shortest_holds) = true)
    (a_is_paper : PySem.W.nsIn K mainGlobals "_is_paper" = some (some (.ref f_is_paper)))
    (l_is_paper : K.lookup f_is_paper = some ⟨oc_is_paper, od_is_paper, .func (PySem.W.fnOf "_is_paper" "_is_paper" (defArgs s_is_paper) (defBody s_is_paper) (defScope s_is_paper) .none kV_is_paper dc_is_paper pm_is_paper an_is_paper cd_is_paper ct_is_paper), sl_is_paper⟩)
    (c_is_paper : PySem.W.codeIn K cd_is_paper "_is_paper" = true)
    (k_is_paper : PySem.W.keepIn K (.ref f_is_paper) = true)
    (a_shows_none : PySem.W.nsIn K mainGlobals "_shows_none" = some (some (.ref f_shows_none)))
    (l_shows_none : K.lookup f_shows_none = some ⟨oc_shows_none, od_shows_none, .func (PySem.W.fnOf "_shows_none" "_shows_none" (defArgs s_shows_none) (defBody s_shows_none) (defScope s_shows_none) .none kV_shows_none dc_shows_none pm_shows_none an_shows_none cd_shows_none ct_shows_none), sl_shows_none⟩)
    (c_shows_none : PySem.W.codeIn K cd_shows_none "_shows_none" = true)
    (k_shows_none : PySem.W.keepIn K (.ref f_shows_none) = true)
    (a_leads_back_shortchecks : PySem.W.nsIn K mainGlobals "leads_back_shortchecks" = some (some (.ref f_leads_back_shortchecks)))
    (l_leads_back_shortchecks : K.lookup f_leads_back_shortchecks = some ⟨oc_leads_back_shortchecks, od_leads_back_shortchecks, .func (PySem.W.fnOf "_leads_back" "_leads_back" (defArgs s_leads_back_shortchecks) (defBody s_leads_back_shortchecks) (defScope s_leads_back_shortchecks) .none kV_leads_back_shortchecks dc_leads_back_shortchecks pm_leads_back_shortchecks an_leads_back_shortchecks cd_leads_back_shortchecks ct_leads_back_shortchecks), sl_leads_back_shortchecks⟩)
    (c_leads_back_shortchecks : PySem.W.codeIn K cd_leads_back_shortchecks "_leads_back" = true)
    (k_leads_back_shortchecks : PySem.W.keepIn K (.ref f_leads_back_shortchecks) = true)
    (a_rounded : PySem.W.nsIn K mainGlobals "rounded" = some (some (.ref f_rounded)))
    (l_rounded : K.lookup f_rounded = some ⟨oc_rounded, od_rounded, .func (PySem.W.fnOf "rounded" "rounded" (defArgs s_rounded) (defBody s_rounded) (defScope s_rounded) .none (.ref Kd_rounded) dc_rounded pm_rounded an_rounded cd_rounded ct_rounded), sl_rounded⟩)
    (c_rounded : PySem.W.codeIn K cd_rounded "rounded" = true)
    (k_rounded : PySem.W.keepIn K (.ref f_rounded) = true)
    (W_rounded : PySem.W.nsIn K Kd_rounded "way" = some (some (.str "half even" tw_rounded)))
    (a_round_paper : PySem.W.nsIn K mainGlobals "round_paper" = some (some (.ref f_round_paper)))
    (l_round_paper : K.lookup f_round_paper = some ⟨oc_round_paper, od_round_paper, .func (PySem.W.fnOf "round_paper" "round_paper" (defArgs s_round_paper) (defBody s_round_paper) (defScope s_round_paper) .none (.ref Kd_round_paper) dc_round_paper pm_round_paper an_round_paper cd_round_paper ct_round_paper), sl_round_paper⟩)
    (c_round_paper : PySem.W.codeIn K cd_round_paper "round_paper" = true)
    (k_round_paper : PySem.W.keepIn K (.ref f_round_paper) = true)
    (W_round_paper : PySem.W.nsIn K Kd_round_paper "way" = some (some (.str "half even" tw_round_paper)))
    (a_place_of : PySem.W.nsIn K mainGlobals "place_of" = some (some (.ref f_place_of)))
    (l_place_of : K.lookup f_place_of = some ⟨oc_place_of, od_place_of, .func (PySem.W.fnOf "place_of" "place_of" (defArgs s_place_of) (defBody s_place_of) (defScope s_place_of) .none kV_place_of dc_place_of pm_place_of an_place_of cd_place_of ct_place_of), sl_place_of⟩)
    (c_place_of : PySem.W.codeIn K cd_place_of "place_of" = true)
    (k_place_of : PySem.W.keepIn K (.ref f_place_of) = true)
    (a_by_up : PySem.W.nsIn K mainGlobals "_by_up" = some (some (.ref f_by_up)))
    (l_by_up : K.lookup f_by_up = some ⟨oc_by_up, od_by_up, .func (PySem.W.fnOf "_by_up" "_by_up" (defArgs s_by_up) (defBody s_by_up) (defScope s_by_up) .none kV_by_up dc_by_up pm_by_up an_by_up cd_by_up ct_by_up), sl_by_up⟩)
    (c_by_up : PySem.W.codeIn K cd_by_up "_by_up" = true)
    (k_by_up : PySem.W.keepIn K (.ref f_by_up) = true)
    (a_by_down : PySem.W.nsIn K mainGlobals "_by_down" = some (some (.ref f_by_down)))
    (l_by_down : K.lookup f_by_down = some ⟨oc_by_down, od_by_down, .func (PySem.W.fnOf "_by_down" "_by_down" (defArgs s_by_down) (defBody s_by_down) (defScope s_by_down) .none kV_by_down dc_by_down pm_by_down an_by_down cd_by_down ct_by_down), sl_by_down⟩)
    (c_by_down : PySem.W.codeIn K cd_by_down "_by_down" = true)
    (k_by_down : PySem.W.keepIn K (.ref f_by_down) = true)
    (a_by_high : PySem.W.nsIn K mainGlobals "_by_high" = some (some (.ref f_by_high)))
    (l_by_high : K.lookup f_by_high = some ⟨oc_by_high, od_by_high, .func (PySem.W.fnOf "_by_high" "_by_high" (defArgs s_by_high) (defBody s_by_high) (defScope s_by_high) .none kV_by_high dc_by_high pm_by_high an_by_high cd_by_high ct_by_high), sl_by_high⟩)
    (c_by_high : PySem.W.codeIn K cd_by_high "_by_high" = true)
    (k_by_high : PySem.W.keepIn K (.ref f_by_high) = true)
    (a_by_low : PySem.W.nsIn K mainGlobals "_by_low" = some (some (.ref f_by_low)))
    (l_by_low : K.lookup f_by_low = some ⟨oc_by_low, od_by_low, .func (PySem.W.fnOf "_by_low" "_by_low" (defArgs s_by_low) (defBody s_by_low) (defScope s_by_low) .none kV_by_low dc_by_low pm_by_low an_by_low cd_by_low ct_by_low), sl_by_low⟩)
    (c_by_low : PySem.W.codeIn K cd_by_low "_by_low" = true)
    (k_by_low : PySem.W.keepIn K (.ref f_by_low) = true)
    (a_by_half_up : PySem.W.nsIn K mainGlobals "_by_half_up" = some (some (.ref f_by_half_up)))
    (l_by_half_up : K.lookup f_by_half_up = some ⟨oc_by_half_up, od_by_half_up, .func (PySem.W.fnOf "_by_half_up" "_by_half_up" (defArgs s_by_half_up) (defBody s_by_half_up) (defScope s_by_half_up) .none kV_by_half_up dc_by_half_up pm_by_half_up an_by_half_up cd_by_half_up ct_by_half_up), sl_by_half_up⟩)
    (c_by_half_up : PySem.W.codeIn K cd_by_half_up "_by_half_up" = true)
    (k_by_half_up : PySem.W.keepIn K (.ref f_by_half_up) = true)
    (a_by_half_down : PySem.W.nsIn K mainGlobals "_by_half_down" = some (some (.ref f_by_half_down)))
    (l_by_half_down : K.lookup f_by_half_down = some ⟨oc_by_half_down, od_by_half_down, .func (PySem.W.fnOf "_by_half_down" "_by_half_down" (defArgs s_by_half_down) (defBody s_by_half_down) (defScope s_by_half_down) .none kV_by_half_down dc_by_half_down pm_by_half_down an_by_half_down cd_by_half_down ct_by_half_down), sl_by_half_down⟩)
    (c_by_half_down : PySem.W.codeIn K cd_by_half_down "_by_half_down" = true)
    (k_by_half_down : PySem.W.keepIn K (.ref f_by_half_down) = true)
    (a_by_half_even : PySem.W.nsIn K mainGlobals "_by_half_even" = some (some (.ref f_by_half_even)))
    (l_by_half_even : K.lookup f_by_half_even = some ⟨oc_by_half_even, od_by_half_even, .func (PySem.W.fnOf "_by_half_even" "_by_half_even" (defArgs s_by_half_even) (defBody s_by_half_even) (defScope s_by_half_even) .none kV_by_half_even dc_by_half_even pm_by_half_even an_by_half_even cd_by_half_even ct_by_half_even), sl_by_half_even⟩)
    (c_by_half_even : PySem.W.codeIn K cd_by_half_even "_by_half_even" = true)
    (k_by_half_even : PySem.W.keepIn K (.ref f_by_half_even) = true)
    (a_by_half_odd : PySem.W.nsIn K mainGlobals "_by_half_odd" = some (some (.ref f_by_half_odd)))
    (l_by_half_odd : K.lookup f_by_half_odd = some ⟨oc_by_half_odd, od_by_half_odd, .func (PySem.W.fnOf "_by_half_odd" "_by_half_odd" (defArgs s_by_half_odd) (defBody s_by_half_odd) (defScope s_by_half_odd) .none kV_by_half_odd dc_by_half_odd pm_by_half_odd an_by_half_odd cd_by_half_odd ct_by_half_odd), sl_by_half_odd⟩)
    (c_by_half_odd : PySem.W.codeIn K cd_by_half_odd "_by_half_odd" = true)
    (k_by_half_odd : PySem.W.keepIn K (.ref f_by_half_odd) = true)
    (a_nearer : PySem.W.nsIn K mainGlobals "_nearer" = some (some (.ref f_nearer)))
    (l_nearer : K.lookup f_nearer = some ⟨oc_nearer, od_nearer, .func (PySem.W.fnOf "_nearer" "_nearer" (defArgs s_nearer) (defBody s_nearer) (defScope s_nearer) .none kV_nearer dc_nearer pm_nearer an_nearer cd_nearer ct_nearer), sl_nearer⟩)
    (c_nearer : PySem.W.codeIn K cd_nearer "_nearer" = true)
    (k_nearer : PySem.W.keepIn K (.ref f_nearer) = true)
    (a_shortest : PySem.W.nsIn K mainGlobals "shortest" = some (some (.ref f_shortest)))
    (l_shortest : K.lookup f_shortest = some ⟨oc_shortest, od_shortest, .func (PySem.W.fnOf "shortest" "shortest" (defArgs s_shortest) (defBody s_shortest) (defScope s_shortest) .none kV_shortest dc_shortest pm_shortest an_shortest cd_shortest ct_shortest), sl_shortest⟩)
    (c_shortest : PySem.W.codeIn K cd_shortest "shortest" = true)
    (k_shortest : PySem.W.keepIn K (.ref f_shortest) = true)
    (a_fewest_places : PySem.W.nsIn K mainGlobals "_fewest_places" = some (some (.ref f_fewest_places)))
    (l_fewest_places : K.lookup f_fewest_places = some ⟨oc_fewest_places, od_fewest_places, .func (PySem.W.fnOf "_fewest_places" "_fewest_places" (defArgs s_fewest_places) (defBody s_fewest_places) (defScope s_fewest_places) .none kV_fewest_places dc_fewest_places pm_fewest_places an_fewest_places cd_fewest_places ct_fewest_places), sl_fewest_places⟩)
    (c_fewest_places : PySem.W.codeIn K cd_fewest_places "_fewest_places" = true)
    (k_fewest_places : PySem.W.keepIn K (.ref f_fewest_places) = true)
    (a_leads_back_shortest : PySem.W.nsIn K mainGlobals "leads_back_shortest" = some (some (.ref f_leads_back_shortest)))
    (l_leads_back_shortest : K.lookup f_leads_back_shortest = some ⟨oc_leads_back_shortest, od_leads_back_shortest, .func (PySem.W.fnOf "_leads_back" "_leads_back" (defArgs s_leads_back_shortest) (defBody s_leads_back_shortest) (defScope s_leads_back_shortest) .none kV_leads_back_shortest dc_leads_back_shortest pm_leads_back_shortest an_leads_back_shortest cd_leads_back_shortest ct_leads_back_shortest), sl_leads_back_shortest⟩)
    (c_leads_back_shortest : PySem.W.codeIn K cd_leads_back_shortest "_leads_back" = true)
    (k_leads_back_shortest : PySem.W.keepIn K (.ref f_leads_back_shortest) = true)
    (a_nearest : PySem.W.nsIn K mainGlobals "_nearest" = some (some (.ref f_nearest)))
    (l_nearest : K.lookup f_nearest = some ⟨oc_nearest, od_nearest, .func (PySem.W.fnOf "_nearest" "_nearest" (defArgs s_nearest) (defBody s_nearest) (defScope s_nearest) .none kV_nearest dc_nearest pm_nearest an_nearest cd_nearest ct_nearest), sl_nearest⟩)
    (c_nearest : PySem.W.codeIn K cd_nearest "_nearest" = true)
    (k_nearest : PySem.W.keepIn K (.ref f_nearest) = true)
    (a_is_greater_nearer : PySem.W.nsIn K mainGlobals "_is_greater_nearer" = some (some (.ref f_is_greater_nearer)))
    (l_is_greater_nearer : K.lookup f_is_greater_nearer = some ⟨oc_is_greater_nearer, od_is_greater_nearer, .func (PySem.W.fnOf "_is_greater_nearer" "_is_greater_nearer" (defArgs s_is_greater_nearer) (defBody s_is_greater_nearer) (defScope s_is_greater_nearer) .none kV_is_greater_nearer dc_is_greater_nearer pm_is_greater_nearer an_is_greater_nearer cd_is_greater_nearer ct_is_greater_nearer), sl_is_greater_nearer⟩)
    (c_is_greater_nearer : PySem.W.codeIn K cd_is_greater_nearer "_is_greater_nearer" = true)
    (k_is_greater_nearer : PySem.W.keepIn K (.ref f_is_greater_nearer) = true)
    (a_l_deck : PySem.W.nsIn K mainGlobals "_law_deck" = some (some (.ref f_l_deck)))
    (l_l_deck : K.lookup f_l_deck = some ⟨oc_l_deck, od_l_deck, .func (PySem.W.fnOf "_law_deck" "_law_deck" (defArgs s_l_deck) (defBody s_l_deck) (defScope s_l_deck) .none kV_l_deck dc_l_deck pm_l_deck an_l_deck cd_l_deck ct_l_deck), sl_l_deck⟩)
    (c_l_deck : PySem.W.codeIn K cd_l_deck "_law_deck" = true)
    (k_l_deck : PySem.W.keepIn K (.ref f_l_deck) = true)
    (a_l_draw : PySem.W.nsIn K mainGlobals "_law_draw" = some (some (.ref f_l_draw)))
    (l_l_draw : K.lookup f_l_draw = some ⟨oc_l_draw, od_l_draw, .func (PySem.W.fnOf "_law_draw" "_law_draw" (defArgs s_l_draw) (defBody s_l_draw) (defScope s_l_draw) .none kV_l_draw dc_l_draw pm_l_draw an_l_draw cd_l_draw ct_l_draw), sl_l_draw⟩)
    (c_l_draw : PySem.W.codeIn K cd_l_draw "_law_draw" = true)
    (k_l_draw : PySem.W.keepIn K (.ref f_l_draw) = true)
    (a_l_grain : PySem.W.nsIn K mainGlobals "_law_grain" = some (some (.ref f_l_grain)))
    (l_l_grain : K.lookup f_l_grain = some ⟨oc_l_grain, od_l_grain, .func (PySem.W.fnOf "_law_grain" "_law_grain" (defArgs s_l_grain) (defBody s_l_grain) (defScope s_l_grain) .none kV_l_grain dc_l_grain pm_l_grain an_l_grain cd_l_grain ct_l_grain), sl_l_grain⟩)
    (c_l_grain : PySem.W.codeIn K cd_l_grain "_law_grain" = true)
    (k_l_grain : PySem.W.keepIn K (.ref f_l_grain) = true)
    (a_l_steps : PySem.W.nsIn K mainGlobals "_law_steps" = some (some (.ref f_l_steps)))
    (l_l_steps : K.lookup f_l_steps = some ⟨oc_l_steps, od_l_steps, .func (PySem.W.fnOf "_law_steps" "_law_steps" (defArgs s_l_steps) (defBody s_l_steps) (defScope s_l_steps) .none kV_l_steps dc_l_steps pm_l_steps an_l_steps cd_l_steps ct_l_steps), sl_l_steps⟩)
    (c_l_steps : PySem.W.codeIn K cd_l_steps "_law_steps" = true)
    (k_l_steps : PySem.W.keepIn K (.ref f_l_steps) = true)
    (a_l_count : PySem.W.nsIn K mainGlobals "_law_count" = some (some (.ref f_l_count)))
    (l_l_count : K.lookup f_l_count = some ⟨oc_l_count, od_l_count, .func (PySem.W.fnOf "_law_count" "_law_count" (defArgs s_l_count) (defBody s_l_count) (defScope s_l_count) .none kV_l_count dc_l_count pm_l_count an_l_count cd_l_count ct_l_count), sl_l_count⟩)
    (c_l_count : PySem.W.codeIn K cd_l_count "_law_count" = true)
    (k_l_count : PySem.W.keepIn K (.ref f_l_count) = true)
    (a_l_kept : PySem.W.nsIn K mainGlobals "_law_kept" = some (some (.ref f_l_kept)))
    (l_l_kept : K.lookup f_l_kept = some ⟨oc_l_kept, od_l_kept, .func (PySem.W.fnOf "_law_kept" "_law_kept" (defArgs s_l_kept) (defBody s_l_kept) (defScope s_l_kept) .none kV_l_kept dc_l_kept pm_l_kept an_l_kept cd_l_kept ct_l_kept), sl_l_kept⟩)
    (c_l_kept : PySem.W.codeIn K cd_l_kept "_law_kept" = true)
    (k_l_kept : PySem.W.keepIn K (.ref f_l_kept) = true)
    (a_l_whole : PySem.W.nsIn K mainGlobals "_law_whole" = some (some (.ref f_l_whole)))
    (l_l_whole : K.lookup f_l_whole = some ⟨oc_l_whole, od_l_whole, .func (PySem.W.fnOf "_law_whole" "_law_whole" (defArgs s_l_whole) (defBody s_l_whole) (defScope s_l_whole) .none kV_l_whole dc_l_whole pm_l_whole an_l_whole cd_l_whole ct_l_whole), sl_l_whole⟩)
    (c_l_whole : PySem.W.codeIn K cd_l_whole "_law_whole" = true)
    (k_l_whole : PySem.W.keepIn K (.ref f_l_whole) = true)
    (a_l_leads : PySem.W.nsIn K mainGlobals "_law_leads" = some (some (.ref f_l_leads)))
    (l_l_leads : K.lookup f_l_leads = some ⟨oc_l_leads, od_l_leads, .func (PySem.W.fnOf "_law_leads" "_law_leads" (defArgs s_l_leads) (defBody s_l_leads) (defScope s_l_leads) .none kV_l_leads dc_l_leads pm_l_leads an_l_leads cd_l_leads ct_l_leads), sl_l_leads⟩)
    (c_l_leads : PySem.W.codeIn K cd_l_leads "_law_leads" = true)
    (k_l_leads : PySem.W.keepIn K (.ref f_l_leads) = true)
    (a_l_is_triple : PySem.W.nsIn K mainGlobals "_law_is_triple" = some (some (.ref f_l_is_triple)))
    (l_l_is_triple : K.lookup f_l_is_triple = some ⟨oc_l_is_triple, od_l_is_triple, .func (PySem.W.fnOf "_law_is_triple" "_law_is_triple" (defArgs s_l_is_triple) (defBody s_l_is_triple) (defScope s_l_is_triple) .none kV_l_is_triple dc_l_is_triple pm_l_is_triple an_l_is_triple cd_l_is_triple ct_l_is_triple), sl_l_is_triple⟩)
    (c_l_is_triple : PySem.W.codeIn K cd_l_is_triple "_law_is_triple" = true)
    (k_l_is_triple : PySem.W.keepIn K (.ref f_l_is_triple) = true)
    (a_l_odd : PySem.W.nsIn K mainGlobals "_law_odd" = some (some (.ref f_l_odd)))
    (l_l_odd : K.lookup f_l_odd = some ⟨oc_l_odd, od_l_odd, .func (PySem.W.fnOf "_law_odd" "_law_odd" (defArgs s_l_odd) (defBody s_l_odd) (defScope s_l_odd) .none kV_l_odd dc_l_odd pm_l_odd an_l_odd cd_l_odd ct_l_odd), sl_l_odd⟩)
    (c_l_odd : PySem.W.codeIn K cd_l_odd "_law_odd" = true)
    (k_l_odd : PySem.W.keepIn K (.ref f_l_odd) = true)
    (a_l_bent : PySem.W.nsIn K mainGlobals "_law_bent" = some (some (.ref f_l_bent)))
    (l_l_bent : K.lookup f_l_bent = some ⟨oc_l_bent, od_l_bent, .func (PySem.W.fnOf "_law_bent" "_law_bent" (defArgs s_l_bent) (defBody s_l_bent) (defScope s_l_bent) .none kV_l_bent dc_l_bent pm_l_bent an_l_bent cd_l_bent ct_l_bent), sl_l_bent⟩)
    (c_l_bent : PySem.W.codeIn K cd_l_bent "_law_bent" = true)
    (k_l_bent : PySem.W.keepIn K (.ref f_l_bent) = true)
    (a_l_right : PySem.W.nsIn K mainGlobals "_law_right" = some (some (.ref f_l_right)))
    (l_l_right : K.lookup f_l_right = some ⟨oc_l_right, od_l_right, .func (PySem.W.fnOf "_law_right" "_law_right" (defArgs s_l_right) (defBody s_l_right) (defScope s_l_right) .none kV_l_right dc_l_right pm_l_right an_l_right cd_l_right ct_l_right), sl_l_right⟩)
    (c_l_right : PySem.W.codeIn K cd_l_right "_law_right" = true)
    (k_l_right : PySem.W.keepIn K (.ref f_l_right) = true)
    (a_law : PySem.W.nsIn K mainGlobals "law" = some (some (.ref f_law)))
    (l_law : K.lookup f_law = some ⟨oc_law, od_law, .func (PySem.W.fnOf "law" "law" (defArgs s_law) (defBody s_law) (defScope s_law) .none kV_law dc_law pm_law an_law cd_law ct_law), sl_law⟩)
    (c_law : PySem.W.codeIn K cd_law "law" = true)
    (k_law : PySem.W.keepIn K (.ref f_law) = true)
    (oF_isgn : oc_is_greater_nearer = .type "function")
    (a_gcd : PySem.W.nsIn K mainGlobals "gcd" = some (some (.builtin "math.gcd")))
    (z_range : PySem.W.nsIn K mainGlobals "range" = some none)
    (z_isinstance : PySem.W.nsIn K mainGlobals "isinstance" = some none)
    (z_str : PySem.W.nsIn K mainGlobals "str" = some none)
    (z_int : PySem.W.nsIn K mainGlobals "int" = some none)
    (z_list : PySem.W.nsIn K mainGlobals "list" = some none)
    (z_len : PySem.W.nsIn K mainGlobals "len" = some none)
    (z_abs : PySem.W.nsIn K mainGlobals "abs" = some none)
    (z_max : PySem.W.nsIn K mainGlobals "max" = some none)
    (z_bool : PySem.W.nsIn K mainGlobals "bool" = some none)
    (z_repr : PySem.W.nsIn K mainGlobals "repr" = some none)
    (z_tuple : PySem.W.nsIn K mainGlobals "tuple" = some none)
    (z_all : PySem.W.nsIn K mainGlobals "all" = some none)
    (a_MOST_PLACES : PySem.W.nsIn K mainGlobals "MOST_PLACES" = some (some (.int 60 t_c_MOST_PLACES)))
    (a_RULES : PySem.W.nsIn K mainGlobals "RULES" = some (some (.ref D_RULES)))
    (l_RULES : K.lookup D_RULES = some ⟨.type "dict", none, .dict es_RULES en_RULES, #[]⟩)
    (k_RULES : PySem.W.KeysLit w.params es_RULES.toList)
    (r_by_up : PySem.W.nsIn K D_RULES "up" = some (some (.ref f_by_up)))
    (r_by_down : PySem.W.nsIn K D_RULES "down" = some (some (.ref f_by_down)))
    (r_by_high : PySem.W.nsIn K D_RULES "high" = some (some (.ref f_by_high)))
    (r_by_low : PySem.W.nsIn K D_RULES "low" = some (some (.ref f_by_low)))
    (r_by_half_up : PySem.W.nsIn K D_RULES "half up" = some (some (.ref f_by_half_up)))
    (r_by_half_down : PySem.W.nsIn K D_RULES "half down" = some (some (.ref f_by_half_down)))
    (r_by_half_even : PySem.W.nsIn K D_RULES "half even" = some (some (.ref f_by_half_even)))
    (r_by_half_odd : PySem.W.nsIn K D_RULES "half odd" = some (some (.ref f_by_half_odd)))
    : ∃ fd : FuncData, (∀ (s : Shared) (v : Value), BindsTo s fd ⟨[v], []⟩ [("_law_script", v)]) ∧ ∀ base : Heap, K.In base → base.Ns mainGlobals mg → FnG l.prog w K mg base 13 fa fd ["_law_script"] (spLaw K) := by
  have e := hfa.symm.trans (PySem.W.mg_of X G a_law)
  cases e
  have F_is_whole := fun_mk (st := s_is_whole) l_is_whole c_is_whole k_is_whole
  have b_is_whole := F_is_whole.binds (ps := ["thing"]) fun _ _ _ _ _ _ us hl => match us, hl with | [_], _ => rfl
  have F_is_whole_between := fun_mk (st := s_is_whole_between) l_is_whole_between c_is_whole_between k_is_whole_between
  have b_is_whole_between := F_is_whole_between.binds (ps := ["thing", "least", "most"]) fun _ _ _ _ _ _ us hl => match us, hl with | [_, _, _], _ => rfl
  have F_Number_init : FunD K "__init__" "Number.__init__" (defArgs s_Number_init) (defBody s_Number_init) (defScope s_Number_init) [V.int 1] [] f_Number_init _ := ⟨⟨_, _, _, _, _, _, _, _, _, _, rfl, l_Number_init, c_Number_init, .inr ⟨by simp, Td_Number_init, _, _, _, rfl, T_Number_init, rfl, .cons ⟨_, rfl⟩ .nil⟩, .inl rfl⟩, k_Number_init⟩
  obtain ⟨b_Number_init2, ds_Number_init1, d_Number_init1, b_Number_init1⟩ := bi_Number_init F_Number_init
  have F_Number_eq := fun_mk (st := s_Number_eq) l_Number_eq c_Number_eq k_Number_eq
  have b_Number_eq := F_Number_eq.binds (ps := ["self", "other"]) fun _ _ _ _ _ _ us hl => match us, hl with | [_, _], _ => rfl
  have F_Number_less := fun_mk (st := s_Number_less) l_Number_less c_Number_less k_Number_less
  have b_Number_less := F_Number_less.binds (ps := ["self", "other"]) fun _ _ _ _ _ _ us hl => match us, hl with | [_, _], _ => rfl
  have F_Number_times := fun_mk (st := s_Number_times) l_Number_times c_Number_times k_Number_times
  have b_Number_times := F_Number_times.binds (ps := ["self", "other"]) fun _ _ _ _ _ _ us hl => match us, hl with | [_, _], _ => rfl
  have F_Number_over := fun_mk (st := s_Number_over) l_Number_over c_Number_over k_Number_over
  have b_Number_over := F_Number_over.binds (ps := ["self", "other"]) fun _ _ _ _ _ _ us hl => match us, hl with | [_, _], _ => rfl
  have F_Number_below := fun_mk (st := s_Number_below) l_Number_below c_Number_below k_Number_below
  have b_Number_below := F_Number_below.binds (ps := ["self", "other"]) fun _ _ _ _ _ _ us hl => match us, hl with | [_, _], _ => rfl
  have F_Number_size := fun_mk (st := s_Number_size) l_Number_size c_Number_size k_Number_size
  have b_Number_size := F_Number_size.binds (ps := ["self"]) fun _ _ _ _ _ _ us hl => match us, hl with | [_], _ => rfl
  have F_Number_floor := fun_mk (st := s_Number_floor) l_Number_floor c_Number_floor k_Number_floor
  have b_Number_floor := F_Number_floor.binds (ps := ["self"]) fun _ _ _ _ _ _ us hl => match us, hl with | [_], _ => rfl
  have F_power_of := fun_mk (st := s_power_of) l_power_of c_power_of k_power_of
  have b_power_of := F_power_of.binds (ps := ["number"]) fun _ _ _ _ _ _ us hl => match us, hl with | [_], _ => rfl
  have F_ten_to := fun_mk (st := s_ten_to) l_ten_to c_ten_to k_ten_to
  have b_ten_to := F_ten_to.binds (ps := ["power"]) fun _ _ _ _ _ _ us hl => match us, hl with | [_], _ => rfl
  have F_shortest_holds := fun_mk (st := s_shortest_holds) l_shortest_holds c_shortest_holds k_shortest_holds
  have b_shortest_holds := F_shortest_holds.binds (ps := ["number", "step", "thing"]) fun _ _ _ _ _ _ us hl => match us, hl with | [_, _, _], _ => rfl
  have F_is_paper := fun_mk (st := s_is_paper) l_is_paper c_is_paper k_is_paper
  have b_is_paper := F_is_paper.binds (ps := ["thing"]) fun _ _ _ _ _ _ us hl => match us, hl with | [_], _ => rfl
  have F_shows_none := fun_mk (st := s_shows_none) l_shows_none c_shows_none k_shows_none
  have b_shows_none := F_shows_none.binds (ps := ["paper", "places", "number", "step"]) fun _ _ _ _ _ _ us hl => match us, hl with | [_, _, _, _], _ => rfl
  have F_leads_back_shortchecks := fun_mk (st := s_leads_back_shortchecks) l_leads_back_shortchecks c_leads_back_shortchecks k_leads_back_shortchecks
  have b_leads_back_shortchecks := F_leads_back_shortchecks.binds (ps := ["count", "places", "kept", "step"]) fun _ _ _ _ _ _ us hl => match us, hl with | [_, _, _, _], _ => rfl
  have F_rounded : FunD K "rounded" "rounded" (defArgs s_rounded) (defBody s_rounded) (defScope s_rounded) [] [(("way" : Str), V.str "half even")] f_rounded _ := ⟨⟨_, _, _, _, _, _, _, _, _, _, rfl, l_rounded, c_rounded, .inl ⟨rfl, rfl⟩, .inr ⟨Kd_rounded, rfl, fun q hq => by cases List.mem_singleton.mp hq; exact ⟨_, W_rounded, ⟨_, rfl⟩⟩⟩⟩, k_rounded⟩
  obtain ⟨kb_rounded, ds_rounded, d_rounded, b_rounded⟩ := bi_rounded F_rounded
  have F_round_paper : FunD K "round_paper" "round_paper" (defArgs s_round_paper) (defBody s_round_paper) (defScope s_round_paper) [] [(("way" : Str), V.str "half even")] f_round_paper _ := ⟨⟨_, _, _, _, _, _, _, _, _, _, rfl, l_round_paper, c_round_paper, .inl ⟨rfl, rfl⟩, .inr ⟨Kd_round_paper, rfl, fun q hq => by cases List.mem_singleton.mp hq; exact ⟨_, W_round_paper, ⟨_, rfl⟩⟩⟩⟩, k_round_paper⟩
  obtain ⟨kb_round_paper, ds_round_paper, d_round_paper, b_round_paper⟩ := bi_round_paper F_round_paper
  have F_place_of := fun_mk (st := s_place_of) l_place_of c_place_of k_place_of
  have b_place_of := F_place_of.binds (ps := ["number", "step"]) fun _ _ _ _ _ _ us hl => match us, hl with | [_, _], _ => rfl
  have F_by_up := fun_mk (st := s_by_up) l_by_up c_by_up k_by_up
  have b_by_up := F_by_up.binds (ps := ["low", "part"]) fun _ _ _ _ _ _ us hl => match us, hl with | [_, _], _ => rfl
  have F_by_down := fun_mk (st := s_by_down) l_by_down c_by_down k_by_down
  have b_by_down := F_by_down.binds (ps := ["low", "part"]) fun _ _ _ _ _ _ us hl => match us, hl with | [_, _], _ => rfl
  have F_by_high := fun_mk (st := s_by_high) l_by_high c_by_high k_by_high
  have b_by_high := F_by_high.binds (ps := ["low", "part"]) fun _ _ _ _ _ _ us hl => match us, hl with | [_, _], _ => rfl
  have F_by_low := fun_mk (st := s_by_low) l_by_low c_by_low k_by_low
  have b_by_low := F_by_low.binds (ps := ["low", "part"]) fun _ _ _ _ _ _ us hl => match us, hl with | [_, _], _ => rfl
  have F_by_half_up := fun_mk (st := s_by_half_up) l_by_half_up c_by_half_up k_by_half_up
  have b_by_half_up := F_by_half_up.binds (ps := ["low", "part"]) fun _ _ _ _ _ _ us hl => match us, hl with | [_, _], _ => rfl
  have F_by_half_down := fun_mk (st := s_by_half_down) l_by_half_down c_by_half_down k_by_half_down
  have b_by_half_down := F_by_half_down.binds (ps := ["low", "part"]) fun _ _ _ _ _ _ us hl => match us, hl with | [_, _], _ => rfl
  have F_by_half_even := fun_mk (st := s_by_half_even) l_by_half_even c_by_half_even k_by_half_even
  have b_by_half_even := F_by_half_even.binds (ps := ["low", "part"]) fun _ _ _ _ _ _ us hl => match us, hl with | [_, _], _ => rfl
  have F_by_half_odd := fun_mk (st := s_by_half_odd) l_by_half_odd c_by_half_odd k_by_half_odd
  have b_by_half_odd := F_by_half_odd.binds (ps := ["low", "part"]) fun _ _ _ _ _ _ us hl => match us, hl with | [_, _], _ => rfl
  have F_nearer := fun_mk (st := s_nearer) l_nearer c_nearer k_nearer
  have b_nearer := F_nearer.binds (ps := ["part", "at_half"]) fun _ _ _ _ _ _ us hl => match us, hl with | [_, _], _ => rfl
  have F_shortest := fun_mk (st := s_shortest) l_shortest c_shortest k_shortest
  have b_shortest := F_shortest.binds (ps := ["number", "step"]) fun _ _ _ _ _ _ us hl => match us, hl with | [_, _], _ => rfl
  have F_fewest_places := fun_mk (st := s_fewest_places) l_fewest_places c_fewest_places k_fewest_places
  have b_fewest_places := F_fewest_places.binds (ps := ["number", "step"]) fun _ _ _ _ _ _ us hl => match us, hl with | [_, _], _ => rfl
  have F_leads_back_shortest := fun_mk (st := s_leads_back_shortest) l_leads_back_shortest c_leads_back_shortest k_leads_back_shortest
  have b_leads_back_shortest := F_leads_back_shortest.binds (ps := ["number", "step", "places"]) fun _ _ _ _ _ _ us hl => match us, hl with | [_, _, _], _ => rfl
  have F_nearest := fun_mk (st := s_nearest) l_nearest c_nearest k_nearest
  have b_nearest := F_nearest.binds (ps := ["number", "places"]) fun _ _ _ _ _ _ us hl => match us, hl with | [_, _], _ => rfl
  have F_is_greater_nearer := fun_mk (st := s_is_greater_nearer) l_is_greater_nearer c_is_greater_nearer k_is_greater_nearer
  have b_is_greater_nearer := F_is_greater_nearer.binds (ps := ["count", "part"]) fun _ _ _ _ _ _ us hl => match us, hl with | [_, _], _ => rfl
  have F_l_deck := fun_mk (st := s_l_deck) l_l_deck c_l_deck k_l_deck
  have b_l_deck := F_l_deck.binds (ps := ["_law_script"]) fun _ _ _ _ _ _ us hl => match us, hl with | [_], _ => rfl
  have F_l_draw := fun_mk (st := s_l_draw) l_l_draw c_l_draw k_l_draw
  have b_l_draw := F_l_draw.binds (ps := ["_law_deck_here", "_law_ways"]) fun _ _ _ _ _ _ us hl => match us, hl with | [_, _], _ => rfl
  have F_l_grain := fun_mk (st := s_l_grain) l_l_grain c_l_grain k_l_grain
  have b_l_grain := F_l_grain.binds (ps := ["_law_deck_here"]) fun _ _ _ _ _ _ us hl => match us, hl with | [_], _ => rfl
  have F_l_steps := fun_mk (st := s_l_steps) l_l_steps c_l_steps k_l_steps
  have b_l_steps := F_l_steps.binds (ps := ["_law_number", "_law_grain_here"]) fun _ _ _ _ _ _ us hl => match us, hl with | [_, _], _ => rfl
  have F_l_count := fun_mk (st := s_l_count) l_l_count c_l_count k_l_count
  have b_l_count := F_l_count.binds (ps := ["_law_number", "_law_grain_here", "_law_rule"]) fun _ _ _ _ _ _ us hl => match us, hl with | [_, _, _], _ => rfl
  have F_l_kept := fun_mk (st := s_l_kept) l_l_kept c_l_kept k_l_kept
  have b_l_kept := F_l_kept.binds (ps := ["_law_deck_here", "_law_grain_here"]) fun _ _ _ _ _ _ us hl => match us, hl with | [_, _], _ => rfl
  have F_l_whole := fun_mk (st := s_l_whole) l_l_whole c_l_whole k_l_whole
  have b_l_whole := F_l_whole.binds (ps := ["_law_thing"]) fun _ _ _ _ _ _ us hl => match us, hl with | [_], _ => rfl
  have F_l_leads := fun_mk (st := s_l_leads) l_l_leads c_l_leads k_l_leads
  have b_l_leads := F_l_leads.binds (ps := ["_law_count_here", "_law_tens", "_law_kept_here", "_law_grain_here"]) fun _ _ _ _ _ _ us hl => match us, hl with | [_, _, _, _], _ => rfl
  have F_l_is_triple := fun_mk (st := s_l_is_triple) l_l_is_triple c_l_is_triple k_l_is_triple
  have b_l_is_triple := F_l_is_triple.binds (ps := ["_law_kept_here", "_law_grain_here", "_law_thing"]) fun _ _ _ _ _ _ us hl => match us, hl with | [_, _, _], _ => rfl
  have F_l_odd := fun_mk (st := s_l_odd) l_l_odd c_l_odd k_l_odd
  have b_l_odd := F_l_odd.binds (ps := ["_law_deck_here", "_law_thing"]) fun _ _ _ _ _ _ us hl => match us, hl with | [_, _], _ => rfl
  have F_l_bent := fun_mk (st := s_l_bent) l_l_bent c_l_bent k_l_bent
  have b_l_bent := F_l_bent.binds (ps := ["_law_deck_here", "_law_thing", "_law_how"]) fun _ _ _ _ _ _ us hl => match us, hl with | [_, _, _], _ => rfl
  have F_l_right := fun_mk (st := s_l_right) l_l_right c_l_right k_l_right
  have b_l_right := F_l_right.binds (ps := ["_law_here", "_law_unit_step", "_law_kept_here", "_law_grain_here", "_law_thing"]) fun _ _ _ _ _ _ us hl => match us, hl with | [_, _, _, _, _], _ => rfl
  have F_law := fun_mk (st := s_law) l_law c_law k_law
  have b_law := F_law.binds (ps := ["_law_script"]) fun _ _ _ _ _ _ us hl => match us, hl with | [_], _ => rfl
  exact ⟨_, fun s v => .of_eq rfl, fun base _ _ => okG_law (w := w) (K := K) (mg := mg) {
    C_Number := C_Number,
    m_Number := PySem.W.mg_of X G aC_Number,
    c_Number := ⟨pg_Number, hd_Number, po_Number, sa_Number⟩,
    n_Number_top := nf_Number_top,
    n_Number_bottom := nf_Number_bottom,
    ty_Number_c := tc_Number,
    ty_Number_g := tg_Number,
    ty_Number_t := tt_Number,
    ty_Number_m := tm_Number,
    ty_Number_k := kit_self,
    ne_Number := nn_Number,
    m_is_whole := PySem.W.mg_of X G a_is_whole,
    f_is_whole := f_is_whole,
    fd_is_whole := _,
    F_is_whole := F_is_whole,
    b_is_whole := b_is_whole,
    m_is_whole_between := PySem.W.mg_of X G a_is_whole_between,
    f_is_whole_between := f_is_whole_between,
    fd_is_whole_between := _,
    F_is_whole_between := F_is_whole_between,
    b_is_whole_between := b_is_whole_between,
    f_Number_init := f_Number_init,
    fd_Number_init := _,
    F_Number_init := F_Number_init,
    mk_Number := ⟨mi_Number, a_Number_init, i_Number_init, kc_Number⟩,
    b_Number_init2 := b_Number_init2,
    ds_Number_init1 := ds_Number_init1,
    d_Number_init1 := d_Number_init1,
    b_Number_init1 := b_Number_init1,
    f_Number_eq := f_Number_eq,
    fd_Number_eq := _,
    F_Number_eq := F_Number_eq,
    me_Number_eq := ⟨a_Number_eq, i_Number_eq, k_Number_eq⟩,
    b_Number_eq := b_Number_eq,
    f_Number_less := f_Number_less,
    fd_Number_less := _,
    F_Number_less := F_Number_less,
    me_Number_less := ⟨a_Number_less, i_Number_less, k_Number_less⟩,
    b_Number_less := b_Number_less,
    f_Number_times := f_Number_times,
    fd_Number_times := _,
    F_Number_times := F_Number_times,
    me_Number_times := ⟨a_Number_times, i_Number_times, k_Number_times⟩,
    b_Number_times := b_Number_times,
    f_Number_over := f_Number_over,
    fd_Number_over := _,
    F_Number_over := F_Number_over,
    me_Number_over := ⟨a_Number_over, i_Number_over, k_Number_over⟩,
    b_Number_over := b_Number_over,
    f_Number_below := f_Number_below,
    fd_Number_below := _,
    F_Number_below := F_Number_below,
    me_Number_below := ⟨a_Number_below, i_Number_below, k_Number_below⟩,
    b_Number_below := b_Number_below,
    f_Number_size := f_Number_size,
    fd_Number_size := _,
    F_Number_size := F_Number_size,
    me_Number_size := ⟨a_Number_size, i_Number_size, k_Number_size⟩,
    b_Number_size := b_Number_size,
    f_Number_floor := f_Number_floor,
    fd_Number_floor := _,
    F_Number_floor := F_Number_floor,
    me_Number_floor := ⟨a_Number_floor, i_Number_floor, k_Number_floor⟩,
    b_Number_floor := b_Number_floor,
    m_power_of := PySem.W.mg_of X G a_power_of,
    f_power_of := f_power_of,
    fd_power_of := _,
    F_power_of := F_power_of,
    b_power_of := b_power_of,
    m_ten_to := PySem.W.mg_of X G a_ten_to,
    f_ten_to := f_ten_to,
    fd_ten_to := _,
    F_ten_to := F_ten_to,
    b_ten_to := b_ten_to,
    m_shortest_holds := PySem.W.mg_of X G a_shortest_holds,
    f_shortest_holds := f_shortest_holds,
    fd_shortest_holds := _,
    F_shortest_holds := F_shortest_holds,
    b_shortest_holds := b_shortest_holds,
    m_is_paper := PySem.W.mg_of X G a_is_paper,
    f_is_paper := f_is_paper,
    fd_is_paper := _,
    F_is_paper := F_is_paper,
    b_is_paper := b_is_paper,
    m_shows_none := PySem.W.mg_of X G a_shows_none,
    f_shows_none := f_shows_none,
    fd_shows_none := _,
    F_shows_none := F_shows_none,
    b_shows_none := b_shows_none,
    m_leads_back_shortchecks := PySem.W.mg_of X G a_leads_back_shortchecks,
    f_leads_back_shortchecks := f_leads_back_shortchecks,
    fd_leads_back_shortchecks := _,
    F_leads_back_shortchecks := F_leads_back_shortchecks,
    b_leads_back_shortchecks := b_leads_back_shortchecks,
    m_rounded := PySem.W.mg_of X G a_rounded,
    f_rounded := f_rounded,
    fd_rounded := _,
    F_rounded := F_rounded,
    kb_rounded := kb_rounded,
    ds_rounded := ds_rounded,
    d_rounded := d_rounded,
    b_rounded := b_rounded,
    m_round_paper := PySem.W.mg_of X G a_round_paper,
    f_round_paper := f_round_paper,
    fd_round_paper := _,
    F_round_paper := F_round_paper,
    kb_round_paper := kb_round_paper,
    ds_round_paper := ds_round_paper,
    d_round_paper := d_round_paper,
    b_round_paper := b_round_paper,
    m_place_of := PySem.W.mg_of X G a_place_of,
    f_place_of := f_place_of,
    fd_place_of := _,
    F_place_of := F_place_of,
    b_place_of := b_place_of,
    m_by_up := PySem.W.mg_of X G a_by_up,
    f_by_up := f_by_up,
    fd_by_up := _,
    F_by_up := F_by_up,
    b_by_up := b_by_up,
    m_by_down := PySem.W.mg_of X G a_by_down,
    f_by_down := f_by_down,
    fd_by_down := _,
    F_by_down := F_by_down,
    b_by_down := b_by_down,
    m_by_high := PySem.W.mg_of X G a_by_high,
    f_by_high := f_by_high,
    fd_by_high := _,
    F_by_high := F_by_high,
    b_by_high := b_by_high,
    m_by_low := PySem.W.mg_of X G a_by_low,
    f_by_low := f_by_low,
    fd_by_low := _,
    F_by_low := F_by_low,
    b_by_low := b_by_low,
    m_by_half_up := PySem.W.mg_of X G a_by_half_up,
    f_by_half_up := f_by_half_up,
    fd_by_half_up := _,
    F_by_half_up := F_by_half_up,
    b_by_half_up := b_by_half_up,
    m_by_half_down := PySem.W.mg_of X G a_by_half_down,
    f_by_half_down := f_by_half_down,
    fd_by_half_down := _,
    F_by_half_down := F_by_half_down,
    b_by_half_down := b_by_half_down,
    m_by_half_even := PySem.W.mg_of X G a_by_half_even,
    f_by_half_even := f_by_half_even,
    fd_by_half_even := _,
    F_by_half_even := F_by_half_even,
    b_by_half_even := b_by_half_even,
    m_by_half_odd := PySem.W.mg_of X G a_by_half_odd,
    f_by_half_odd := f_by_half_odd,
    fd_by_half_odd := _,
    F_by_half_odd := F_by_half_odd,
    b_by_half_odd := b_by_half_odd,
    m_nearer := PySem.W.mg_of X G a_nearer,
    f_nearer := f_nearer,
    fd_nearer := _,
    F_nearer := F_nearer,
    b_nearer := b_nearer,
    m_shortest := PySem.W.mg_of X G a_shortest,
    f_shortest := f_shortest,
    fd_shortest := _,
    F_shortest := F_shortest,
    b_shortest := b_shortest,
    m_fewest_places := PySem.W.mg_of X G a_fewest_places,
    f_fewest_places := f_fewest_places,
    fd_fewest_places := _,
    F_fewest_places := F_fewest_places,
    b_fewest_places := b_fewest_places,
    m_leads_back_shortest := PySem.W.mg_of X G a_leads_back_shortest,
    f_leads_back_shortest := f_leads_back_shortest,
    fd_leads_back_shortest := _,
    F_leads_back_shortest := F_leads_back_shortest,
    b_leads_back_shortest := b_leads_back_shortest,
    m_nearest := PySem.W.mg_of X G a_nearest,
    f_nearest := f_nearest,
    fd_nearest := _,
    F_nearest := F_nearest,
    b_nearest := b_nearest,
    m_is_greater_nearer := PySem.W.mg_of X G a_is_greater_nearer,
    f_is_greater_nearer := f_is_greater_nearer,
    fd_is_greater_nearer := _,
    F_is_greater_nearer := F_is_greater_nearer,
    b_is_greater_nearer := b_is_greater_nearer,
    m_l_deck := PySem.W.mg_of X G a_l_deck,
    f_l_deck := f_l_deck,
    fd_l_deck := _,
    F_l_deck := F_l_deck,
    b_l_deck := b_l_deck,
    m_l_draw := PySem.W.mg_of X G a_l_draw,
    f_l_draw := f_l_draw,
    fd_l_draw := _,
    F_l_draw := F_l_draw,
    b_l_draw := b_l_draw,
    m_l_grain := PySem.W.mg_of X G a_l_grain,
    f_l_grain := f_l_grain,
    fd_l_grain := _,
    F_l_grain := F_l_grain,
    b_l_grain := b_l_grain,
    m_l_steps := PySem.W.mg_of X G a_l_steps,
    f_l_steps := f_l_steps,
    fd_l_steps := _,
    F_l_steps := F_l_steps,
    b_l_steps := b_l_steps,
    m_l_count := PySem.W.mg_of X G a_l_count,
    f_l_count := f_l_count,
    fd_l_count := _,
    F_l_count := F_l_count,
    b_l_count := b_l_count,
    m_l_kept := PySem.W.mg_of X G a_l_kept,
    f_l_kept := f_l_kept,
    fd_l_kept := _,
    F_l_kept := F_l_kept,
    b_l_kept := b_l_kept,
    m_l_whole := PySem.W.mg_of X G a_l_whole,
    f_l_whole := f_l_whole,
    fd_l_whole := _,
    F_l_whole := F_l_whole,
    b_l_whole := b_l_whole,
    m_l_leads := PySem.W.mg_of X G a_l_leads,
    f_l_leads := f_l_leads,
    fd_l_leads := _,
    F_l_leads := F_l_leads,
    b_l_leads := b_l_leads,
    m_l_is_triple := PySem.W.mg_of X G a_l_is_triple,
    f_l_is_triple := f_l_is_triple,
    fd_l_is_triple := _,
    F_l_is_triple := F_l_is_triple,
    b_l_is_triple := b_l_is_triple,
    m_l_odd := PySem.W.mg_of X G a_l_odd,
    f_l_odd := f_l_odd,
    fd_l_odd := _,
    F_l_odd := F_l_odd,
    b_l_odd := b_l_odd,
    m_l_bent := PySem.W.mg_of X G a_l_bent,
    f_l_bent := f_l_bent,
    fd_l_bent := _,
    F_l_bent := F_l_bent,
    b_l_bent := b_l_bent,
    m_l_right := PySem.W.mg_of X G a_l_right,
    f_l_right := f_l_right,
    fd_l_right := _,
    F_l_right := F_l_right,
    b_l_right := b_l_right,
    m_law := PySem.W.mg_of X G a_law,
    f_law := _,
    fd_law := _,
    F_law := F_law,
    b_law := b_law,
    fo_is_greater_nearer := ⟨_, l_is_greater_nearer, oF_isgn⟩,
    m_gcd := PySem.W.mg_of X G a_gcd,
    n_range := PySem.W.mg_none_of X G z_range,
    n_isinstance := PySem.W.mg_none_of X G z_isinstance,
    n_str := PySem.W.mg_none_of X G z_str,
    n_int := PySem.W.mg_none_of X G z_int,
    n_list := PySem.W.mg_none_of X G z_list,
    n_len := PySem.W.mg_none_of X G z_len,
    n_abs := PySem.W.mg_none_of X G z_abs,
    n_max := PySem.W.mg_none_of X G z_max,
    n_bool := PySem.W.mg_none_of X G z_bool,
    n_repr := PySem.W.mg_none_of X G z_repr,
    n_tuple := PySem.W.mg_none_of X G z_tuple,
    n_all := PySem.W.mg_none_of X G z_all,
    u_MOST_PLACES := _,
    m_MOST_PLACES := PySem.W.mg_of X G a_MOST_PLACES,
    r_MOST_PLACES := ⟨_, rfl⟩,
    D_RULES := D_RULES,
    m_RULES := PySem.W.mg_of X G a_RULES,
    es_RULES := es_RULES,
    en_RULES := en_RULES,
    l_RULES := l_RULES,
    k_RULES := k_RULES,
    rule_by_up := r_by_up,
    rule_by_down := r_by_down,
    rule_by_high := r_by_high,
    rule_by_low := r_by_low,
    rule_by_half_up := r_by_half_up,
    rule_by_half_down := r_by_half_down,
    rule_by_half_even := r_by_half_even,
    rule_by_half_odd := r_by_half_odd }⟩
theorem walk {l : PySem.W.OpenLaw} {q : Program} {loose : List Str} {XP : (Str → Option Value) → Heap → Prop} {YP : World → Heap → Prop} {d : DefRec} {K : Params → PySem.W.Frag} (hn : l.most = some 63) (hdf : d.params.defaults = [])
    (hY : ∀ (w : World) (h : Heap), YP w h → (K w.params).In h)
    (F : ∀ (w : World) (mg : Str → Option Value) (fa : Addr) (h : Heap), (K w.params).In h → h.Ns mainGlobals mg → mg d.name = some (.ref fa) →
      ∃ fd : FuncData, (∀ (s : Shared) (u : Value), BindsTo s fd ⟨[u], []⟩ [("_law_script", u)]) ∧ ∀ base : Heap, (K w.params).In base → base.Ns mainGlobals mg → FnG l.prog w (K w.params) mg base 13 fa fd ["_law_script"] (spLaw (K w.params))) :
    PySem.W.WalkO q loose XP YP l.row.toRowW d [] (fun f vs => PySem.call f vs) :=
  walk_ofG (n := 63) (k := 13) (x := "_law_script") (sp := fun w => spLaw (K w.params)) hn (by decide) hdf ⟨rfl, by decide, by decide⟩ hY F (fun _ _ a ns hl hS => ⟨a, ns, rfl, hS, hl, fun _ => rfl⟩)
end My
open PySem PySem.W PyProof.Rows in
set_option maxRecDepth 100000 in
set_option maxHeartbeats 0 in
theorem PySem.Challenge.cw_figuretexts_k56_shortest_papers_spoilt_holds : PySem.Challenge.rw_figuretexts_k56_shortest_papers_spoilt.Holds := by
  w_on; o_law; k_head; (case hw => w_witness2)
  k_fill
  refine My.walk (l := PySem.Challenge.rw_figuretexts_k56_shortest_papers_spoilt) rfl rfl (fun w h Y => PySem.W.kIn_of Y) ?F
  case F =>
    intro w mg fa h KX G hmg
    refine' My.all_mk KX G hmg ?aC_Number ?pg_Number ?hd_Number ?po_Number ?sa_Number ?nf_Number_top ?nf_Number_bottom ?tc_Number ?tg_Number ?tt_Number ?tm_Number ?nn_Number ?mi_Number ?kc_Number ?a_is_whole ?l_is_whole ?c_is_whole ?k_is_whole ?a_is_whole_between ?l_is_whole_between ?c_is_whole_between ?k_is_whole_between ?a_Number_init ?i_Number_init ?l_Number_init ?c_Number_init ?k_Number_init ?T_Number_init ?a_Number_eq ?i_Number_eq ?l_Number_eq ?c_Number_eq ?k_Number_eq ?a_Number_less ?i_Number_less ?l_Number_less ?c_Number_less ?k_Number_less ?a_Number_times ?i_Number_times ?l_Number_times ?c_Number_times ?k_Number_times ?a_Number_over ?i_Number_over ?l_Number_over ?c_Number_over ?k_Number_over ?a_Number_below ?i_Number_below ?l_Number_below ?c_Number_below ?k_Number_below ?a_Number_size ?i_Number_size ?l_Number_size ?c_Number_size ?k_Number_size ?a_Number_floor ?i_Number_floor ?l_Number_floor ?c_Number_floor ?k_Number_floor ?a_power_of ?l_power_of ?c_power_of ?k_power_of ?a_ten_to ?l_ten_to ?c_ten_to ?k_ten_to ?a_shortest_holds ?l_shortest_holds ?c_shortest_holds ?k_shortest_holds ?a_is_paper ?l_is_paper ?c_is_paper ?k_is_paper ?a_shows_none ?l_shows_none ?c_shows_none ?k_shows_none ?a_leads_back_shortchecks ?l_leads_back_shortchecks ?c_leads_back_shortchecks ?k_leads_back_shortchecks ?a_rounded ?l_rounded ?c_rounded ?k_rounded ?W_rounded ?a_round_paper ?l_round_paper ?c_round_paper ?k_round_paper ?W_round_paper ?a_place_of ?l_place_of ?c_place_of ?k_place_of ?a_by_up ?l_by_up ?c_by_up ?k_by_up ?a_by_down ?l_by_down ?c_by_down ?k_by_down ?a_by_high ?l_by_high ?c_by_high ?k_by_high ?a_by_low ?l_by_low ?c_by_low ?k_by_low ?a_by_half_up ?l_by_half_up ?c_by_half_up ?k_by_half_up ?a_by_half_down ?l_by_half_down ?c_by_half_down ?k_by_half_down ?a_by_half_even ?l_by_half_even ?c_by_half_even ?k_by_half_even ?a_by_half_odd ?l_by_half_odd ?c_by_half_odd ?k_by_half_odd ?a_nearer ?l_nearer ?c_nearer ?k_nearer ?a_shortest ?l_shortest ?c_shortest ?k_shortest ?a_fewest_places ?l_fewest_places ?c_fewest_places ?k_fewest_places ?a_leads_back_shortest ?l_leads_back_shortest ?c_leads_back_shortest ?k_leads_back_shortest ?a_nearest ?l_nearest ?c_nearest ?k_nearest ?a_is_greater_nearer ?l_is_greater_nearer ?c_is_greater_nearer ?k_is_greater_nearer ?a_l_deck ?l_l_deck ?c_l_deck ?k_l_deck ?a_l_draw ?l_l_draw ?c_l_draw ?k_l_draw ?a_l_grain ?l_l_grain ?c_l_grain ?k_l_grain ?a_l_steps ?l_l_steps ?c_l_steps ?k_l_steps ?a_l_count ?l_l_count ?c_l_count ?k_l_count ?a_l_kept ?l_l_kept ?c_l_kept ?k_l_kept ?a_l_whole ?l_l_whole ?c_l_whole ?k_l_whole ?a_l_leads ?l_l_leads ?c_l_leads ?k_l_leads ?a_l_is_triple ?l_l_is_triple ?c_l_is_triple ?k_l_is_triple ?a_l_odd ?l_l_odd ?c_l_odd ?k_l_odd ?a_l_bent ?l_l_bent ?c_l_bent ?k_l_bent ?a_l_right ?l_l_right ?c_l_right ?k_l_right ?a_law ?l_law ?c_law ?k_law ?oF_isgn ?a_gcd ?z_range ?z_isinstance ?z_str ?z_int ?z_list ?z_len ?z_abs ?z_max ?z_bool ?z_repr ?z_tuple ?z_all ?a_MOST_PLACES ?a_RULES ?l_RULES ?k_RULES ?r_by_up ?r_by_down ?r_by_high ?r_by_low ?r_by_half_up ?r_by_half_down ?r_by_half_even ?r_by_half_odd
    (case aC_Number => k_is)
    (case pg_Number => k_is)
    (case hd_Number => k_is)
    (case po_Number => k_is)
    (case sa_Number => k_is)
    (case nf_Number_top => k_is)
    (case nf_Number_bottom => k_is)
    (case tc_Number => k_is)
    (case tg_Number => k_is)
    (case tt_Number => k_is)
    (case tm_Number => k_is)
    (case nn_Number => k_is)
    (case mi_Number => k_is)
    (case kc_Number => k_is)
    (case a_is_whole => k_is)
    (case l_is_whole => k_is)
    (case c_is_whole => k_is)
    (case k_is_whole => k_is)
    (case a_is_whole_between => k_is)
    (case l_is_whole_between => k_is)
    (case c_is_whole_between => k_is)
    (case k_is_whole_between => k_is)
    (case a_Number_init => k_is)
    (case i_Number_init => k_is)
    (case l_Number_init => k_is)
    (case c_Number_init => k_is)
    (case k_Number_init => k_is)
    (case T_Number_init => k_is)
    (case a_Number_eq => k_is)
    (case i_Number_eq => k_is)
    (case l_Number_eq => k_is)
    (case c_Number_eq => k_is)
    (case k_Number_eq => k_is)
    (case a_Number_less => k_is)
    (case i_Number_less => k_is)
    (case l_Number_less => k_is)
    (case c_Number_less => k_is)
    (case k_Number_less => k_is)
    (case a_Number_times => k_is)
    (case i_Number_times => k_is)
    (case l_Number_times => k_is)
    (case c_Number_times => k_is)
    (case k_Number_times => k_is)
    (case a_Number_over => k_is)
    (case i_Number_over => k_is)
    (case l_Number_over => k_is)
    (case c_Number_over => k_is)
    (case k_Number_over => k_is)
    (case a_Number_below => k_is)
    (case i_Number_below => k_is)
    (case l_Number_below => k_is)
    (case c_Number_below => k_is)
    (case k_Number_below => k_is)
    (case a_Number_size => k_is)
    (case i_Number_size => k_is)
    (case l_Number_size => k_is)
    (case c_Number_size => k_is)
    (case k_Number_size => k_is)
    (case a_Number_floor => k_is)
    (case i_Number_floor => k_is)
    (case l_Number_floor => k_is)
    (case c_Number_floor => k_is)
    (case k_Number_floor => k_is)
    (case a_power_of => k_is)
    (case l_power_of => k_is)
    (case c_power_of => k_is)
    (case k_power_of => k_is)
    (case a_ten_to => k_is)
    (case l_ten_to => k_is)
    (case c_ten_to => k_is)
    (case k_ten_to => k_is)
    (case a_shortest_holds => k_is)
    (case l_shortest_holds => k_is)
    (case c_shortest_holds => k_is)
    (case k_shortest_holds => k_is)
    (case a_is_paper => k_is)
    (case l_is_paper => k_is)
    (case c_is_paper => k_is)
    (case k_is_paper => k_is)
    (case a_shows_none => k_is)
    (case l_shows_none => k_is)
    (case c_shows_none => k_is)
    (case k_shows_none => k_is)
    (case a_leads_back_shortchecks => k_is)
    (case l_leads_back_shortchecks => k_is)
    (case c_leads_back_shortchecks => k_is)
    (case k_leads_back_shortchecks => k_is)
    (case a_rounded => k_is)
    (case l_rounded => k_is)
    (case c_rounded => k_is)
    (case k_rounded => k_is)
    (case W_rounded => k_is)
    (case a_round_paper => k_is)
    (case l_round_paper => k_is)
    (case c_round_paper => k_is)
    (case k_round_paper => k_is)
    (case W_round_paper => k_is)
    (case a_place_of => k_is)
    (case l_place_of => k_is)
    (case c_place_of => k_is)
    (case k_place_of => k_is)
    (case a_by_up => k_is)
    (case l_by_up => k_is)
    (case c_by_up => k_is)
    (case k_by_up => k_is)
    (case a_by_down => k_is)
    (case l_by_down => k_is)
    (case c_by_down => k_is)
    (case k_by_down => k_is)
    (case a_by_high => k_is)
    (case l_by_high => k_is)
    (case c_by_high => k_is)
    (case k_by_high => k_is)
    (case a_by_low => k_is)
    (case l_by_low => k_is)
    (case c_by_low => k_is)
    (case k_by_low => k_is)
    (case a_by_half_up => k_is)
    (case l_by_half_up => k_is)
    (case c_by_half_up => k_is)
    (case k_by_half_up => k_is)
    (case a_by_half_down => k_is)
    (case l_by_half_down => k_is)
    (case c_by_half_down => k_is)
    (case k_by_half_down => k_is)
    (case a_by_half_even => k_is)
    (case l_by_half_even => k_is)
    (case c_by_half_even => k_is)
    (case k_by_half_even => k_is)
    (case a_by_half_odd => k_is)
    (case l_by_half_odd => k_is)
    (case c_by_half_odd => k_is)
    (case k_by_half_odd => k_is)
    (case a_nearer => k_is)
    (case l_nearer => k_is)
    (case c_nearer => k_is)
    (case k_nearer => k_is)
    (case a_shortest => k_is)
    (case l_shortest => k_is)
    (case c_shortest => k_is)
    (case k_shortest => k_is)
    (case a_fewest_places => k_is)
    (case l_fewest_places => k_is)
    (case c_fewest_places => k_is)
    (case k_fewest_places => k_is)
    (case a_leads_back_shortest => k_is)
    (case l_leads_back_shortest => k_is)
    (case c_leads_back_shortest => k_is)
    (case k_leads_back_shortest => k_is)
    (case a_nearest => k_is)
    (case l_nearest => k_is)
    (case c_nearest => k_is)
    (case k_nearest => k_is)
    (case a_is_greater_nearer => k_is)
    (case l_is_greater_nearer => k_is)
    (case c_is_greater_nearer => k_is)
    (case k_is_greater_nearer => k_is)
    (case a_l_deck => k_is)
    (case l_l_deck => k_is)
    (case c_l_deck => k_is)
    (case k_l_deck => k_is)
    (case a_l_draw => k_is)
    (case l_l_draw => k_is)
    (case c_l_draw => k_is)
    (case k_l_draw => k_is)
    (case a_l_grain => k_is)
    (case l_l_grain => k_is)
    (case c_l_grain => k_is)
    (case k_l_grain => k_is)
    (case a_l_steps => k_is)
    (case l_l_steps => k_is)
    (case c_l_steps => k_is)
    (case k_l_steps => k_is)
    (case a_l_count => k_is)
    (case l_l_count => k_is)
    (case c_l_count => k_is)
    (case k_l_count => k_is)
    (case a_l_kept => k_is)
    (case l_l_kept => k_is)
    (case c_l_kept => k_is)
    (case k_l_kept => k_is)
    (case a_l_whole => k_is)
    (case l_l_whole => k_is)
    (case c_l_whole => k_is)
    (case k_l_whole => k_is)
    (case a_l_leads => k_is)
    (case l_l_leads => k_is)
    (case c_l_leads => k_is)
    (case k_l_leads => k_is)
    (case a_l_is_triple => k_is)
    (case l_l_is_triple => k_is)
    (case c_l_is_triple => k_is)
    (case k_l_is_triple => k_is)
    (case a_l_odd => k_is)
    (case l_l_odd => k_is)
    (case c_l_odd => k_is)
    (case k_l_odd => k_is)
    (case a_l_bent => k_is)
    (case l_l_bent => k_is)
    (case c_l_bent => k_is)
    (case k_l_bent => k_is)
    (case a_l_right => k_is)
    (case l_l_right => k_is)
    (case c_l_right => k_is)
    (case k_l_right => k_is)
    (case a_law => k_is)
    (case l_law => k_is)
    (case c_law => k_is)
    (case k_law => k_is)
    (case oF_isgn => rfl)
    (case a_gcd => k_is)
    (case z_range => k_is)
    (case z_isinstance => k_is)
    (case z_str => k_is)
    (case z_int => k_is)
    (case z_list => k_is)
    (case z_len => k_is)
    (case z_abs => k_is)
    (case z_max => k_is)
    (case z_bool => k_is)
    (case z_repr => k_is)
    (case z_tuple => k_is)
    (case z_all => k_is)
    (case a_MOST_PLACES => k_is)
    (case a_RULES => k_is)
    (case l_RULES => k_is)
    (case k_RULES => exact ⟨⟨_, _, rfl, rfl⟩, ⟨_, _, rfl, rfl⟩, ⟨_, _, rfl, rfl⟩, ⟨_, _, rfl, rfl⟩, ⟨_, _, rfl, rfl⟩, ⟨_, _, rfl, rfl⟩, ⟨_, _, rfl, rfl⟩, ⟨_, _, rfl, rfl⟩, trivial⟩)
    (case r_by_up => k_is)
    (case r_by_down => k_is)
    (case r_by_high => k_is)
    (case r_by_low => k_is)
    (case r_by_half_up => k_is)
    (case r_by_half_down => k_is)
    (case r_by_half_even => k_is)
    (case r_by_half_odd => k_is)
