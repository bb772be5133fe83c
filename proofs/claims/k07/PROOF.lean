import PyProof.Rows.All
import Wide.All
import OpenK.AllK
import Wide.FinOn
import HandS.ForMost
import HandS.Wide
import HandS.WideBits
import HandS.Dict
import HandS.OwnEq
import PyProof.SeqRoads2
import HandS.Gcd
import HandS.Defaults
import HandS.CallLocal
import HandS.Style
import HandS.IsInst
import HandS.More
import HandS.TupAny
import HandS.StrMore
import HandS.Codes
import HandS.FStr
import PySem.Challenge.RW_figuretexts_k07_neighbours_told

set_option Elab.async false
set_option linter.all false
set_option maxRecDepth 100000
set_option maxHeartbeats 4000000

namespace My
/-! numbers as Rat -/
def cdiv (t b : Int) : Int := if b < 0 then -((Nat.gcd t.natAbs b.natAbs : Nat) : Int) else ((Nat.gcd t.natAbs b.natAbs : Nat) : Int)
theorem gcd_pos {t b : Int} (h : b ≠ 0) : 0 < Nat.gcd t.natAbs b.natAbs := Nat.gcd_pos_of_pos_right _ (by omega)
theorem num_of {t b : Int} (h : b ≠ 0) : t.fdiv (cdiv t b) = (Rat.divInt t b).num := by
  have g := gcd_pos (t := t) h
  have d1 : ((Nat.gcd t.natAbs b.natAbs : Nat) : Int) ∣ t := Int.dvd_trans (Int.natCast_dvd_natCast.mpr (Nat.gcd_dvd_left _ _)) (Int.natAbs_dvd.mpr (Int.dvd_refl _))
  rw [Rat.num_divInt]
  have e : ((Int.gcd b t : Nat) : Int) = ((Nat.gcd t.natAbs b.natAbs : Nat) : Int) := by
    rw [Int.gcd_comm]; rfl
  rw [e]
  unfold cdiv
  obtain ⟨k, hk⟩ := d1
  have gn : ((Nat.gcd t.natAbs b.natAbs : Nat) : Int) ≠ 0 := by omega
  generalize ((Nat.gcd t.natAbs b.natAbs : Nat) : Int) = G at *
  subst hk
  by_cases hb : b < 0
  · rw [if_pos hb, Int.sign_eq_neg_one_of_neg hb]
    rw [show G * k = (-G) * (-k) by rw [Int.neg_mul_neg], Int.mul_fdiv_cancel_left _ (by omega)]
    rw [show -1 * (-G * -k) = G * (-k) by rw [Int.neg_mul_neg]; rw [Int.neg_one_mul, Int.mul_neg], Int.mul_ediv_cancel_left _ gn]
  · have hb' : 0 < b := by omega
    rw [if_neg hb, Int.sign_eq_one_of_pos hb', Int.one_mul, Int.mul_fdiv_cancel_left _ gn, Int.mul_ediv_cancel_left _ gn]
theorem den_of {t b : Int} (h : b ≠ 0) : b.fdiv (cdiv t b) = ((Rat.divInt t b).den : Int) := by
  have g := gcd_pos (t := t) h
  have d1 : ((Nat.gcd t.natAbs b.natAbs : Nat) : Int) ∣ b := Int.dvd_trans (Int.natCast_dvd_natCast.mpr (Nat.gcd_dvd_right _ _)) (Int.natAbs_dvd.mpr (Int.dvd_refl _))
  rw [Rat.den_divInt, if_neg h]
  have e : (Int.gcd b t : Nat) = (Nat.gcd t.natAbs b.natAbs : Nat) := by
    rw [Int.gcd_comm]; rfl
  rw [e, Int.natCast_ediv]
  unfold cdiv
  obtain ⟨k, hk⟩ := d1
  have gn : ((Nat.gcd t.natAbs b.natAbs : Nat) : Int) ≠ 0 := by omega
  have gp : 0 < ((Nat.gcd t.natAbs b.natAbs : Nat) : Int) := by omega
  generalize hG : ((Nat.gcd t.natAbs b.natAbs : Nat) : Int) = G at *
  by_cases hb : b < 0
  · rw [if_pos hb, show ((b.natAbs : Nat) : Int) = -b by omega]
    rw [hk, show G * k = (-G) * (-k) by rw [Int.neg_mul_neg], Int.mul_fdiv_cancel_left _ (by omega)]
    rw [show -(-G * -k) = G * (-k) by rw [Int.neg_mul_neg, Int.mul_neg], Int.mul_ediv_cancel_left _ gn]
  · rw [if_neg hb, show ((b.natAbs : Nat) : Int) = b by omega, hk, Int.mul_fdiv_cancel_left _ gn, Int.mul_ediv_cancel_left _ gn]

/-- top and bottom below 2 ^ n -/
def Bd (n : Nat) (q : Rat) : Prop := q.num.natAbs < 2 ^ n ∧ q.den < 2 ^ n
theorem Bd.mono {m n : Nat} {q : Rat} (h : Bd m q) (l : m ≤ n) : Bd n q :=
  ⟨Nat.lt_of_lt_of_le h.1 (Nat.pow_le_pow_right (by decide) l), Nat.lt_of_lt_of_le h.2 (Nat.pow_le_pow_right (by decide) l)⟩
theorem num_le (t b : Int) : (Rat.divInt t b).num.natAbs ≤ t.natAbs := by
  rw [Rat.num_divInt]
  refine Nat.le_trans (Int.natAbs_ediv_le_natAbs _ _) ?_
  rw [Int.natAbs_mul]
  rcases Int.lt_trichotomy b 0 with h | h | h
  · rw [Int.sign_eq_neg_one_of_neg h]; simp
  · subst h; simp
  · rw [Int.sign_eq_one_of_pos h]; simp
theorem den_le {t b : Int} (h : b ≠ 0) : (Rat.divInt t b).den ≤ b.natAbs := by
  rw [Rat.den_divInt, if_neg h]
  exact Nat.div_le_self _ _
theorem Bd.of {n : Nat} {t b : Int} (h : b ≠ 0) (ht : t.natAbs < 2 ^ n) (hb : b.natAbs < 2 ^ n) : Bd n (Rat.divInt t b) :=
  ⟨Nat.lt_of_le_of_lt (num_le t b) ht, Nat.lt_of_le_of_lt (den_le h) hb⟩
theorem den_ne (q : Rat) : ((q.den : Nat) : Int) ≠ 0 := by have := q.den_pos; omega
theorem sub_eq (x y : Rat) : Rat.divInt (x.num * (y.den : Int) - y.num * (x.den : Int)) ((x.den : Int) * (y.den : Int)) = x - y := by
  rw [Rat.sub_def', ← Int.natCast_mul, Rat.divInt_ofNat]
theorem add_eq (x y : Rat) : Rat.divInt (x.num * (y.den : Int) + y.num * (x.den : Int)) ((x.den : Int) * (y.den : Int)) = x + y := by
  rw [Rat.add_def', ← Int.natCast_mul, Rat.divInt_ofNat]
theorem mul_eq (x y : Rat) : Rat.divInt (x.num * y.num) ((x.den : Int) * (y.den : Int)) = x * y := by
  rw [Rat.mul_def', ← Int.natCast_mul, Rat.divInt_ofNat]
theorem div_eq (x y : Rat) : Rat.divInt (x.num * (y.den : Int)) ((x.den : Int) * y.num) = x / y := by
  rw [Rat.div_def, Rat.inv_def, ← Rat.divInt_mul_divInt, Rat.num_divInt_den]
theorem num_ne {y : Rat} (h : y ≠ 0) : y.num ≠ 0 := fun e => h (Rat.num_eq_zero.mp e)
theorem floor_eq (x : Rat) : x.num.fdiv (x.den : Int) = x.floor := by
  rw [Rat.floor_def, Int.fdiv_eq_ediv_of_nonneg _ (by omega)]
theorem natAbs_mul_lt {a b : Int} {m n k : Nat} (ha : a.natAbs < 2 ^ m) (hb : b.natAbs < 2 ^ n) (h : m + n ≤ k) : (a * b).natAbs < 2 ^ k := by
  rw [Int.natAbs_mul]
  exact Nat.lt_of_lt_of_le (Nat.mul_lt_mul'' ha hb) (by rw [← Nat.pow_add]; exact Nat.pow_le_pow_right (by decide) h)
theorem natAbs_sub_lt {a b : Int} {k : Nat} (ha : a.natAbs < 2 ^ k) (hb : b.natAbs < 2 ^ k) : (a - b).natAbs < 2 ^ (k + 1) := by
  rw [Nat.pow_succ]; omega
theorem natAbs_add_lt {a b : Int} {k : Nat} (ha : a.natAbs < 2 ^ k) (hb : b.natAbs < 2 ^ k) : (a + b).natAbs < 2 ^ (k + 1) := by
  rw [Nat.pow_succ]; omega
theorem Bd.sub {m n : Nat} {x y : Rat} (hx : Bd m x) (hy : Bd n y) : Bd (m + n + 1) (x - y) := by
  rw [← sub_eq]
  refine Bd.of (Int.mul_ne_zero (den_ne x) (den_ne y)) ?_ ?_
  · exact natAbs_sub_lt (natAbs_mul_lt (m := m) (n := n) hx.1 (by have := hy.2; omega) (Nat.le_refl _)) (natAbs_mul_lt (m := n) (n := m) hy.1 (by have := hx.2; omega) (by omega))
  · exact natAbs_mul_lt (m := m) (n := n) (by have := hx.2; omega) (by have := hy.2; omega) (by omega)
theorem Bd.mul {m n : Nat} {x y : Rat} (hx : Bd m x) (hy : Bd n y) : Bd (m + n) (x * y) := by
  rw [← mul_eq]
  exact Bd.of (Int.mul_ne_zero (den_ne x) (den_ne y)) (natAbs_mul_lt hx.1 hy.1 (Nat.le_refl _)) (natAbs_mul_lt (m := m) (n := n) (by have := hx.2; omega) (by have := hy.2; omega) (by omega))
theorem Bd.div {m n : Nat} {x y : Rat} (hx : Bd m x) (hy : Bd n y) (h : y ≠ 0) : Bd (m + n) (x / y) := by
  rw [← div_eq]
  exact Bd.of (Int.mul_ne_zero (den_ne x) (num_ne h)) (natAbs_mul_lt (m := m) (n := n) hx.1 (by have := hy.2; omega) (Nat.le_refl _)) (natAbs_mul_lt (m := m) (n := n) (by have := hx.2; omega) hy.1 (by omega))
theorem Bd.int {n : Nat} {i : Int} (h : i.natAbs < 2 ^ n) (h1 : 1 ≤ n) : Bd n (i : Rat) := ⟨h, by
  show 1 < 2 ^ n
  exact Nat.lt_of_lt_of_le (by decide) (Nat.pow_le_pow_right (by decide) h1)⟩
theorem floor_bd {n : Nat} {x : Rat} (h : Bd n x) : x.floor.natAbs < 2 ^ n := by
  rw [Rat.floor_def]
  exact Nat.lt_of_le_of_lt (Int.natAbs_ediv_le_natAbs _ _) h.1
theorem divInt_one (i : Int) : Rat.divInt i 1 = (i : Rat) := by
  have := Rat.divInt_ofNat i 1
  rw [show ((1 : Nat) : Int) = 1 from rfl] at this
  rw [this, Rat.mkRat_eq_div]; simp
  grind

/-! the ways -/
inductive Way where
  | up | down | high | low | hup | hdown | heven | hodd
def nearerB (part : Rat) (a : Bool) : Bool := if 2 * part.num = (part.den : Int) then a else decide ((part.den : Int) < 2 * part.num)
def ruleB : Way → Int → Rat → Bool
  | .up, l, _ => decide (0 ≤ l)
  | .down, l, _ => decide (l < 0)
  | .high, _, _ => true
  | .low, _, _ => false
  | .hup, l, p => nearerB p (decide (0 ≤ l))
  | .hdown, l, p => nearerB p (decide (l < 0))
  | .heven, l, p => nearerB p (decide (l % 2 = 1))
  | .hodd, l, p => nearerB p (decide (l % 2 = 0))
def partQ (n : Rat) : Rat := n - (n.floor : Rat)
def highQ (n : Rat) : Int := if (partQ n).num = 0 then n.floor else n.floor + 1
def takenQ (w : Way) (n : Rat) : Int := if (partQ n).num = 0 then n.floor else if ruleB w n.floor (partQ n) = true then n.floor + 1 else n.floor
theorem floor_add {c : Int} {f : Rat} (h0 : 0 ≤ f) (h1 : f < 1) : ((c : Rat) + f).floor = c := by
  have a : c ≤ ((c : Rat) + f).floor := Rat.le_floor_iff.mpr (by grind)
  have b : ((c : Rat) + f).floor < c + 1 := Rat.floor_lt_iff.mpr (by rw [Rat.intCast_add]; grind)
  omega
theorem part_add {c : Int} {f : Rat} (h0 : 0 ≤ f) (h1 : f < 1) : partQ ((c : Rat) + f) = f := by
  unfold partQ
  rw [floor_add h0 h1]
  grind
theorem taken_add {w : Way} {c : Int} {f : Rat} (h0 : 0 < f) (h1 : f < 1) : takenQ w ((c : Rat) + f) = if ruleB w c f = true then c + 1 else c := by
  unfold takenQ
  rw [part_add (Rat.le_of_lt h0) h1, floor_add (Rat.le_of_lt h0) h1, if_neg (num_ne (by grind))]
/-- a number of whole and part steps -/
theorem steps_eq {a b c p0 p1 : Int} (ha : a ≠ 0) (hb : b ≠ 0) (h1 : p1 ≠ 0) : Rat.divInt (a * (c * p1 + p0)) (b * p1) / Rat.divInt a b = (c : Rat) + Rat.divInt p0 p1 := by
  simp only [Rat.divInt_eq_div, Rat.intCast_mul, Rat.intCast_add]
  have ha' : (a : Rat) ≠ 0 := by simpa using ha
  have hb' : (b : Rat) ≠ 0 := by simpa using hb
  have h1' : (p1 : Rat) ≠ 0 := by simpa using h1
  grind
end My

namespace My
open PySem L2
/-! readings, one head at a time -/
section
variable {σ : L2.St} {H : Hp} {Q : VK} {QB : Bool → Hp → Prop} {QA : List V → Hp → Prop} {QS : L2.St → Hp → Prop} {v x y : V} {ta tb te tc : TE} {tr : TA} {t u : TS} {c d : TT} {g : TG} {i : Nat} {K : PySem.W.Frag} {b : Bool}
  {nx : L2.St → Hp → Prop} {rt : VK} {bk ct : L2.St → Hp → Prop}
theorem r_var (q : ∃ v, σ[i]? = some (some v) ∧ Q v H) : tVar i σ H Q := q
theorem r_c (q : Q v H) : tC v σ H Q := q
theorem r_op {r : R2} (q : ta σ H fun x H1 => tb σ H1 fun y H2 => r x y H2 Q) : tOp r ta tb σ H Q := q
theorem r_un {r : V → Hp → VK → Prop} (q : ta σ H fun x H1 => r x H1 Q) : tUn r ta σ H Q := q
theorem r_U {f : Int → V} {i : Int} (q : Q (f i) H) : rU f (.int i) H Q := ⟨i, rfl, q⟩
theorem r_I0 {f : Int → Int → V} {i j : Int} (q : Q (f i j) H) : rI0 f (.int i) (.int j) H Q := ⟨i, j, rfl, rfl, q⟩
theorem r_I {C : Int → Int → Prop} {f : Int → Int → V} {i j : Int} (h : C i j) (q : Q (f i j) H) : rI C f (.int i) (.int j) H Q := ⟨i, j, rfl, rfl, h, q⟩
theorem r_eq (h : scal x y = true) (q : Q (.bl (decide (x = y))) H) : rEq x y H Q := ⟨h, q⟩
theorem r_ne (h : scal x y = true) (q : Q (.bl (!decide (x = y))) H) : rNe x y H Q := ⟨h, q⟩
theorem r_eqI {i j : Int} (q : Q (.bl (decide (i = j))) H) : rEq (.int i) (.int j) H Q := ⟨rfl, by
  have e : decide (V.int i = V.int j) = decide (i = j) := by simp
  rw [e]; exact q⟩
theorem r_neI {i j : Int} (q : Q (.bl (!decide (i = j))) H) : rNe (.int i) (.int j) H Q := ⟨rfl, by
  have e : decide (V.int i = V.int j) = decide (i = j) := by simp
  rw [e]; exact q⟩
theorem r_eqS {i j : Str} (q : Q (.bl (decide (i = j))) H) : rEq (.str i) (.str j) H Q := ⟨rfl, by
  have e : decide (V.str i = V.str j) = decide (i = j) := by simp
  rw [e]; exact q⟩
theorem r_eqB {i j : Bool} (q : Q (.bl (decide (i = j))) H) : rEq (.bl i) (.bl j) H Q := ⟨rfl, by
  have e : decide (V.bl i = V.bl j) = decide (i = j) := by simp
  rw [e]; exact q⟩
theorem r_test (q : te σ H fun x H' => ∃ k, x = .bl k ∧ QB k H') : tTest te σ H QB := q
theorem r_B (q : te σ H fun x H' => ∃ k, x = .bl k ∧ QB k H') : tB te σ H QB := q
theorem r_k {P : Bool → Prop} (q : P b) : ∃ k, V.bl b = .bl k ∧ P k := ⟨b, rfl, q⟩
theorem r_and (q : c σ H fun b H1 => if b = true then d σ H1 QB else QB false H1) : tAnd c d σ H QB := q
theorem r_or (q : c σ H fun b H1 => if b = true then QB true H1 else d σ H1 QB) : tOr c d σ H QB := q
theorem r_not (q : c σ H fun b H1 => QB (!b) H1) : tNot c σ H QB := q
theorem r_andV (q : ta σ H fun x H1 => ∃ c, x = .bl c ∧ if c = true then tb σ H1 Q else Q (.bl false) H1) : tAndV ta tb σ H Q := q
theorem r_orV (q : ta σ H fun x H1 => ∃ c, x = .bl c ∧ if c = true then Q (.bl true) H1 else tb σ H1 Q) : tOrV ta tb σ H Q := q
theorem r_notV (q : ta σ H fun x H1 => ∃ c, x = .bl c ∧ Q (.bl (!c)) H1) : tNotV ta σ H Q := q
theorem r_if (q : c σ H fun b H1 => if b = true then ta σ H1 Q else tb σ H1 Q) : tIf c ta tb σ H Q := q
theorem r_seq (q : t ⟨u ⟨nx, rt, bk, ct⟩, rt, bk, ct⟩ σ H) : tSeq t u ⟨nx, rt, bk, ct⟩ σ H := q
theorem r_asg (q : te σ H fun x H1 => g x σ H1 nx) : tAsg te g ⟨nx, rt, bk, ct⟩ σ H := q
theorem r_name (q : QS (σ.set i (some v)) H) : gName i v σ H QS := q
theorem r_ifs (q : c σ H fun b H1 => if b = true then t ⟨nx, rt, bk, ct⟩ σ H1 else u ⟨nx, rt, bk, ct⟩ σ H1) : tIfS c t u ⟨nx, rt, bk, ct⟩ σ H := q
theorem r_ret (q : te σ H rt) : tRet te ⟨nx, rt, bk, ct⟩ σ H := q
theorem r_next (q : nx σ H) : tNext ⟨nx, rt, bk, ct⟩ σ H := q
theorem r_drop (q : te σ H fun _ H1 => nx σ H1) : tDrop te ⟨nx, rt, bk, ct⟩ σ H := q
theorem r_cons (q : te σ H fun x H1 => tr σ H1 fun xs H2 => QA (x :: xs) H2) : tCons te tr σ H QA := q
theorem r_nil (q : QA [] H) : tNil σ H QA := q
theorem r_tup (q : tr σ H fun xs H1 => xs.length ≤ sizeLine ∧ ∀ p, H1 p = none → Q (.ref p) (upd H1 p (.tup xs))) : tTup tr σ H Q := q
theorem r_lst (q : tr σ H fun xs H1 => xs.length ≤ sizeLine ∧ ∀ p, H1 p = none → Q (.ref p) (upd H1 p (.lst xs))) : tLst tr σ H Q := q
theorem r_new {n : Nat} {P : Prop} (h : n ≤ 1000) (q : P) : n ≤ sizeLine ∧ P := ⟨Nat.le_trans h (by decide), q⟩
theorem r_fldT {f : Str} (q : ta σ H fun x H1 => ∃ a C dx fs v, x = .ref a ∧ H1 a = some (.ins C dx fs) ∧ Cls K C ∧ NoAttr K C f ∧ fs.lookup f = some v ∧ Q v H1) : tFld K ta f σ H Q := q
theorem r_fld {f : Str} {p C dx : Addr} {fs : List (Str × V)} (h : H p = some (.ins C dx fs)) (k : Cls K C) (n : NoAttr K C f) (l : fs.lookup f = some v) {P : V → Prop} (q : P v) :
    ∃ a C dx fs v, V.ref p = .ref a ∧ H a = some (.ins C dx fs) ∧ Cls K C ∧ NoAttr K C f ∧ fs.lookup f = some v ∧ P v := ⟨p, C, dx, fs, v, rfl, h, k, n, l, q⟩
theorem r_sFld {f : Str} (q : te σ H fun y H1 => ta σ H1 fun x H2 => ∃ a C dx fs, x = .ref a ∧ H2 a = some (.ins C dx fs) ∧ Cls K C ∧ NoAttr K C f ∧ fs.length < 1000 ∧ nx σ (upd H2 a (.ins C dx (putF f y fs)))) : sFld K ta te f ⟨nx, rt, bk, ct⟩ σ H := q
theorem r_call {sp : Sp} {dvs : List V} {E : XK} (q : tr σ H fun vs H1 => sp (vs ++ dvs) H1 Q E) : tCall sp dvs E tr σ H Q := q
theorem r_CB {r : List V → Hp → VK → Prop} (q : tr σ H fun vs H1 => r vs H1 Q) : tCB r tr σ H Q := q
theorem r_meth {C : Addr} {m : Str} {sp : Sp} {dvs : List V} {E : XK} (q : ta σ H fun x H1 => ∃ a dx fs, x = .ref a ∧ H1 a = some (.ins C dx fs) ∧ fs.lookup m = none ∧ tr σ H1 fun vs H2 => sp (x :: (vs ++ dvs)) H2 Q E) : tMeth C m sp dvs E ta tr σ H Q := q
theorem r_meth1 {C : Addr} {m : Str} {P : Prop} {p dx : Addr} {fs : List (Str × V)} (h : H p = some (.ins C dx fs)) (l : fs.lookup m = none) (q : P) : ∃ a dx fs, V.ref p = .ref a ∧ H a = some (.ins C dx fs) ∧ fs.lookup m = none ∧ P := ⟨p, dx, fs, rfl, h, l, q⟩
theorem r_make {C : Addr} {sp : Sp} {dvs : List V} {E : XK} (q : tr σ H fun vs H1 => ∀ x dx, H1 x = none → H1 dx = none → dx ≠ x → sp (.ref x :: (vs ++ dvs)) (upd (upd H1 dx (.own x)) x (.ins C dx [])) (fun v H2 => v = .non ∧ Q (.ref x) H2) E) : tMake C sp dvs E tr σ H Q := q
theorem r_callN {n m : Nat} {sp : Sp} {gV : List V → List V → List V} {E : XK} {tk : TA} (q : tr σ H fun vs H1 => tk σ H1 fun zs H2 => vs.length = n ∧ zs.length = m ∧ sp (gV vs zs) H2 Q E) : tCallN n m sp gV E tr tk σ H Q := q
theorem r_ixT {p : Addr} {xs : List V} {i : Int} (h : H p = some (.tup xs)) (a : atI xs i = some v) (q : Q v H) : rIxT K (.ref p) (.int i) H Q := ⟨p, xs, i, v, rfl, rfl, SqT.of h, a, q⟩
theorem r_ixL {p : Addr} {xs : List V} {i : Int} (h : H p = some (.lst xs)) (a : atI xs i = some v) (q : Q v H) : rIxL K (.ref p) (.int i) H Q := ⟨p, xs, i, v, rfl, rfl, SqL.of h, a, q⟩
theorem r_isi {vs : List V} (q : rIsi K vs H Q) : rIsi K vs H Q := q
theorem r_ite {A B : Prop} {k : Bool} (h1 : k = true → A) (h2 : k = false → B) : if k = true then A else B := by
  cases k with
  | true => exact h1 rfl
  | false => exact h2 rfl
theorem r_iteT {A B : Prop} {k : Bool} (h : k = true) (q : A) : if k = true then A else B := by
  rw [if_pos h]; exact q
theorem r_iteF {A B : Prop} {k : Bool} (h : k = false) (q : B) : if k = true then A else B := by
  subst h; exact iteF q
end
/-! ### // by any number but nought -/
def CDivA (_ j : Int) : Prop := j ≠ 0 ∧ j.natAbs.log2 < 9000
theorem op_fdivA {X : Cx} : OpR X (binaryOp .FloorDiv) (rI CDivA fun i j => .int (i.fdiv j)) := opI fun i j _ _ _ _ _ hc q => PyProof.Rows.floordiv_int hc.1 q (.inl (PyProof.noPylong_of_log2 hc.2))
theorem cdivA {i j : Int} {b : Nat} (h : j ≠ 0) (hb : j.natAbs < 2 ^ b) (h0 : 0 < b) (h9 : b ≤ 9000) : CDivA i j := ⟨h, Nat.lt_of_lt_of_le (PySem.Flt.log2_lt_of h0 hb) h9⟩
/-! ### heaps but for two places -/
def Off (d c : Addr) (H H' : Hp) : Prop := ∀ b o, b ≠ d → b ≠ c → H b = some o → H' b = some o
theorem Off.refl (d c : Addr) (H : Hp) : Off d c H H := fun _ _ _ _ h => h
theorem Off.trans {d c : Addr} {H H1 H2 : Hp} (a : Off d c H H1) (b : Off d c H1 H2) : Off d c H H2 := fun x o h1 h2 h => b x o h1 h2 (a x o h1 h2 h)
theorem Off.of {d c : Addr} {H H' : Hp} (a : Same H H') : Off d c H H' := fun x o _ _ h => a x o h
theorem Same.new {H : Hp} {p : Addr} {o : HO} (h : H p = none) : Same H (upd H p o) := fun b u e => by
  rw [upd_ne (ne_of_none e h)]
  exact e
/-! ### more heads -/
section
variable {σ : L2.St} {H : Hp} {Q : VK} {QA : List V → Hp → Prop} {QS : L2.St → Hp → Prop} {QO : Option Int → Hp → Prop} {v x y : V} {te ta to ti : TE} {tr : TA} {tl th : TO} {K : PySem.W.Frag} {nx : L2.St → Hp → Prop} {rt : VK} {bk ct : L2.St → Hp → Prop}
theorem r_gsub {t : TSet} (q : to σ H fun o H1 => ti σ H1 fun i H2 => t o i v H2 fun H3 => QS σ H3) : gSub to ti t v σ H QS := q
theorem r_setL {p : Addr} {xs : List V} {k : Int} {j : Nat} {R : Hp → Prop} (h : H p = some (.lst xs)) (e : ixN xs.length k = some j) (q : R (upd H p (.lst (xs.set j v)))) : rSetL (.ref p) (.int k) v H R := ⟨p, xs, k, j, rfl, rfl, h, e, q⟩
theorem r_sl {r : V → Option Int → Option Int → Hp → VK → Prop} (q : te σ H fun x H1 => tl σ H1 fun l H2 => th σ H2 fun u H3 => r x l u H3 Q) : tSl r te tl th σ H Q := q
theorem r_noPart (q : QO none H) : tNoPart σ H QO := q
theorem r_part (q : te σ H fun x H1 => ∃ i, x = .int i ∧ QO (some i) H1) : tPart te σ H QO := q
theorem r_ki {P : Int → Prop} {i : Int} (q : P i) : ∃ k, V.int i = .int k ∧ P k := ⟨i, rfl, q⟩
theorem r_bm0 {T : String} {r : V → List V → Hp → VK → Prop} (q : te σ H fun x H1 => tyV K T x H1 ∧ r x [] H1 Q) : tBM0 K T r te σ H Q := q
theorem r_bm {T : String} {r : V → List V → Hp → VK → Prop} (q : te σ H fun x H1 => tyV K T x H1 ∧ tr σ H1 fun xs H2 => r x xs H2 Q) : tBM K T r te tr σ H Q := q
theorem r_rev (q : te σ H fun x H1 => ∃ a xs, x = .ref a ∧ SqL K H1 a xs ∧ ∀ p, H1 p = none → Q (.ref p) (upd H1 p (.lst xs.reverse))) : tRevL K te σ H Q := q
theorem ty_list {p : Addr} {xs : List V} (h : H p = some (.lst xs)) : tyV K "list" (.ref p) H := .inl ⟨rfl, _, SqL.of h⟩
theorem r_pop {p : Addr} {xs : List V} {y : V} (h : H p = some (.lst (xs ++ [y]))) (q : Q y (upd H p (.lst xs))) : rPop (.ref p) [] H Q := by
  refine ⟨p, xs ++ [y], y, rfl, rfl, h, by simp, ?_⟩
  rw [List.dropLast_concat]
  exact q
theorem r_append {p : Addr} {xs : List V} (h : H p = some (.lst xs)) (l : xs.length ≤ 1000) (q : Q .non (upd H p (.lst (xs ++ [y])))) : rAppend (.ref p) [y] H Q := ⟨p, xs, y, rfl, rfl, h, Nat.lt_of_le_of_lt l (by decide), q⟩
end
theorem dp_ints {K : PySem.W.Frag} {H : Hp} : ∀ xs : List Int, DpAll K H (xs.map V.int) (xs.map PyData.int)
  | [] => .nil
  | x :: xs => .cons (.int x) (dp_ints xs)
theorem lay_ints : ∀ xs : List Int, PyData.canLayAll0 (xs.map PyData.int) = true ∧ PyData.depthAll (xs.map PyData.int) = 0
  | [] => ⟨rfl, rfl⟩
  | x :: xs => by
    obtain ⟨a, b⟩ := lay_ints xs
    constructor
    · show (PyData.canLay0 (.int x) && PyData.canLayAll0 (xs.map PyData.int)) = true
      rw [a]; rfl
    · show max (PyData.depth (.int x)) (PyData.depthAll (xs.map PyData.int)) = 0
      rw [b]; rfl
theorem shaped_ints (xs : List Int) : SeqAt.shaped (.list (xs.map PyData.int)) = true := by
  obtain ⟨a, b⟩ := lay_ints xs
  have a' : PyData.canLay0 (.list (xs.map PyData.int)) = true := by rw [PyData.canLay0]; exact a
  have b' : PyData.depth (.list (xs.map PyData.int)) = 1 := by rw [PyData.depth, b]
  unfold SeqAt.shaped
  rw [a', b']; rfl
theorem eqv_ints : ∀ xs ys : List Int, PyData.eqvAll (xs.map PyData.int) (ys.map PyData.int) = decide (xs = ys)
  | [], [] => rfl
  | [], _ :: _ => by simp [PyData.eqvAll]
  | _ :: _, [] => by simp [PyData.eqvAll]
  | x :: xs, y :: ys => by
    show (PyData.eqv (.int x) (.int y) && PyData.eqvAll (xs.map PyData.int) (ys.map PyData.int)) = _
    rw [eqv_ints xs ys]
    show ((x == y) && decide (xs = ys)) = _
    rw [Bool.eq_iff_iff]; simp
theorem r_neInts {K : PySem.W.Frag} {H : Hp} {Q : VK} {p q : Addr} {xs ys : List Int} (h : SqL K H p (xs.map V.int)) (h' : SqL K H q (ys.map V.int)) (k : Q (.bl (!decide (xs = ys))) H) : rNeD K (.ref p) (.ref q) H Q :=
  ⟨.list (xs.map PyData.int), .list (ys.map PyData.int), .lst h (dp_ints xs), .lst h' (dp_ints ys), shaped_ints xs, shaped_ints ys, by
    rw [PyData.eqv, eqv_ints]; exact k⟩
theorem cut_ints (ns : List Int) (k : Int) : ∃ ms : List Int, cutV (ns.map V.int) none (some k) = ms.map V.int ∧ ms.length ≤ ns.length := by
  unfold cutV
  rw [← List.map_drop, ← List.map_take]
  exact ⟨_, rfl, by rw [List.length_take, List.length_drop]; omega⟩
end My
namespace My
open PySem L2
theorem r_forT {σ : L2.St} {H : Hp} {K : PySem.W.Frag} {tl : TE} {g : TG} {tb : TS} {D : Ends} (q : tl σ H fun x H1 => ∃ a, x = .ref a ∧ (∃ xs, SqT K H1 a xs) ∧ ∃ W : Nat → Nat → L2.St → Hp → Prop, (∃ m, W 0 m σ H1) ∧ ∀ i m σ H, W i m σ H →
    ((Itt K a).stop i H ∧ D.nx σ H) ∨ ((Itt K a).go i H ∧ ∃ N : L2.St → Hp → Prop, (∀ σ' H', N σ' H' → ∃ m', m' < m ∧ W (i + 1) m' σ' H') ∧ ∀ x H', (Itt K a).yld i H x H' → g x σ H' fun σ2 H2 => tb { D with nx := N, ct := N, bk := D.nx } σ2 H2)) : tFor (iTup K tl) g tb D σ H := q
end My

local macro_rules | `(tactic| walk_at "rd1") => `(tactic| first
  | with_reducible refine My.r_seq ?_
  | with_reducible refine My.r_asg ?_
  | with_reducible refine My.r_name ?_
  | with_reducible refine My.r_cons ?_
  | with_reducible refine My.r_nil ?_
  | with_reducible refine My.r_op ?_
  | ((with_reducible refine My.r_var ?_); refine ⟨_, rfl, ?_⟩)
  | with_reducible refine My.r_c ?_
  | with_reducible refine My.r_I0 ?_
  | with_reducible refine My.r_eqI ?_
  | with_reducible refine My.r_neI ?_
  | with_reducible refine My.r_eqS ?_
  | with_reducible refine My.r_eqB ?_
  | with_reducible refine My.r_test ?_
  | with_reducible refine My.r_B ?_
  | with_reducible refine My.r_k ?_
  | with_reducible refine My.r_un ?_
  | with_reducible refine My.r_U ?_
  | with_reducible refine My.r_ifs ?_
  | with_reducible refine My.r_ret ?_
  | with_reducible refine My.r_next ?_
  | with_reducible refine My.r_drop ?_
  | with_reducible refine My.r_CB ?_
  | with_reducible refine My.r_call ?_
  | with_reducible refine My.r_callN ?_
  | with_reducible refine My.r_meth ?_
  | with_reducible refine My.r_make ?_
  | with_reducible refine My.r_tup ?_
  | with_reducible refine My.r_lst ?_
  | with_reducible refine My.r_fldT ?_
  | with_reducible refine My.r_sFld ?_
  | with_reducible refine My.r_and ?_
  | with_reducible refine My.r_or ?_
  | with_reducible refine My.r_not ?_
  | with_reducible refine My.r_andV ?_
  | with_reducible refine My.r_orV ?_
  | with_reducible refine My.r_notV ?_
  | with_reducible refine My.r_if ?_
  | with_reducible refine My.r_gsub ?_
  | with_reducible refine My.r_sl ?_
  | with_reducible refine My.r_noPart ?_
  | with_reducible refine My.r_part ?_
  | with_reducible refine My.r_ki ?_
  | with_reducible refine My.r_bm0 ?_
  | with_reducible refine My.r_bm ?_
  | with_reducible refine My.r_rev ?_
  | ((with_reducible refine My.r_I ?_ ?_); (first | decide | exact .inl ⟨by decide, by decide⟩ | exact .inr ⟨by decide, by decide⟩ | exact ⟨by decide, by decide⟩ | exact ⟨by decide, by decide, by decide⟩)))
local macro_rules | `(tactic| walk_at "rd") => `(tactic| (repeat walk_at "rd1"))


namespace My
/-! ### rounded twice -/
def isHalf : Way → Bool
  | .heven | .hodd | .hup | .hdown => true
  | _ => false
/-- at the middle beyond l: whether up -/
def tieUp : Way → Int → Bool
  | .hup, l => decide (0 ≤ l)
  | .hdown, l => decide (l < 0)
  | .heven, l => decide (l % 2 = 1)
  | .hodd, l => decide (l % 2 = 0)
  | _, _ => false
theorem nearerB_lo {p : Rat} {a : Bool} (h : p < 1 / 2) : nearerB p a = false := by
  have d := p.den_pos
  have e : p.num * 2 < 1 * (p.den : Int) := by
    have := (Rat.lt_iff p (1 / 2)).mp h
    have h1 : ((1 : Rat) / 2).num = 1 := by decide +kernel
    have h2 : ((1 : Rat) / 2).den = 2 := by decide +kernel
    rw [h1, h2] at this
    exact this
  unfold nearerB
  rw [if_neg (by omega)]
  exact decide_eq_false (by omega)
theorem nearerB_hi {p : Rat} {a : Bool} (h : 1 / 2 < p) : nearerB p a = true := by
  have d := p.den_pos
  have e : 1 * (p.den : Int) < p.num * 2 := by
    have := (Rat.lt_iff (1 / 2) p).mp h
    have h1 : ((1 : Rat) / 2).num = 1 := by decide +kernel
    have h2 : ((1 : Rat) / 2).den = 2 := by decide +kernel
    rw [h1, h2] at this
    exact this
  unfold nearerB
  rw [if_neg (by omega)]
  exact decide_eq_true (by omega)
theorem nearerB_mid (a : Bool) : nearerB (1 / 2) a = a := by cases a <;> decide +kernel
theorem ruleB_lo {r : Way} (h : isHalf r = true) (l : Int) {p : Rat} (hp : p < 1 / 2) : ruleB r l p = false := by
  cases r <;> first | exact absurd h (by decide) | exact nearerB_lo hp
theorem ruleB_hi {r : Way} (h : isHalf r = true) (l : Int) {p : Rat} (hp : 1 / 2 < p) : ruleB r l p = true := by
  cases r <;> first | exact absurd h (by decide) | exact nearerB_hi hp
theorem ruleB_mid {r : Way} (h : isHalf r = true) (l : Int) : ruleB r l (1 / 2) = tieUp r l := by
  cases r <;> first | exact absurd h (by decide) | exact nearerB_mid _
theorem taken_int (r : Way) (c : Int) : takenQ r (c : Rat) = c := by
  have e : partQ (c : Rat) = 0 := by unfold partQ; rw [Rat.floor_intCast]; grind
  unfold takenQ
  rw [e, Rat.floor_intCast]
  rfl
/-- nearer than a half -/
theorem taken_near {r : Way} (h : isHalf r = true) {n : Rat} {t : Int} (h1 : (t : Rat) - 1 / 2 < n) (h2 : n < (t : Rat) + 1 / 2) : takenQ r n = t := by
  by_cases h0 : n = (t : Rat)
  · rw [h0]
    exact taken_int r t
  · by_cases hp : (t : Rat) < n
    · have e : n = (t : Rat) + (n - t) := by grind
      rw [e, taken_add (by grind) (by grind), ruleB_lo h t (by grind)]
      rfl
    · have e : n = ((t - 1 : Int) : Rat) + (n - t + 1) := by rw [Rat.intCast_sub]; grind
      rw [e, taken_add (by grind) (by grind), ruleB_hi h (t - 1) (by grind)]
      show t - 1 + 1 = t
      omega
theorem taken_mid {r : Way} (h : isHalf r = true) (l : Int) : takenQ r ((l : Rat) + 1 / 2) = if tieUp r l = true then l + 1 else l := by
  rw [taken_add (by decide +kernel) (by decide +kernel), ruleB_mid h l]
/-- every number is near one, or in the middle -/
theorem near_or_mid (n : Rat) : (∃ t : Int, (t : Rat) - 1 / 2 < n ∧ n < (t : Rat) + 1 / 2) ∨ ∃ l : Int, n = (l : Rat) + 1 / 2 := by
  have a := Rat.floor_le n
  have b := Rat.lt_floor_add_one n
  rw [Rat.intCast_add] at b
  by_cases h : n = (n.floor : Rat) + 1 / 2
  · exact .inr ⟨_, h⟩
  · by_cases h2 : n < (n.floor : Rat) + 1 / 2
    · exact .inl ⟨n.floor, by grind, h2⟩
    · exact .inl ⟨n.floor + 1, by rw [Rat.intCast_add]; grind, by rw [Rat.intCast_add]; grind⟩
def twiceT (r : Way) (m : Int) (u : Rat) : Int := takenQ r ((takenQ r u : Rat) / (m : Rat))
def onceT (r : Way) (m : Int) (u : Rat) : Int := takenQ r (u / (m : Rat))
theorem div_near {r : Way} (h : isHalf r = true) {m : Int} (hm : 0 < m) {s : Int} {n : Rat} (h1 : (s : Rat) * m - (m : Rat) / 2 < n) (h2 : n < (s : Rat) * m + (m : Rat) / 2) : takenQ r (n / (m : Rat)) = s := by
  have hm' : (0 : Rat) < (m : Rat) := Rat.intCast_pos.mpr hm
  refine taken_near h ?_ ?_
  · exact (Rat.lt_div_iff hm').mpr (by grind)
  · exact (Rat.div_lt_iff hm').mpr (by grind)
theorem div_mid {r : Way} (h : isHalf r = true) {m : Int} (hm : 0 < m) {s : Int} {n : Rat} (h1 : n = (s : Rat) * m + (m : Rat) / 2) : takenQ r (n / (m : Rat)) = if tieUp r s = true then s + 1 else s := by
  have hm' : (m : Rat) ≠ 0 := by have : (0 : Rat) < (m : Rat) := Rat.intCast_pos.mpr hm; grind
  rw [← taken_mid h s, h1]
  congr 1
  grind
theorem split_odd (j h : Int) (h0 : 0 ≤ h) : ∃ s e : Int, j = s * (2 * h + 1) + e ∧ -h ≤ e ∧ e ≤ h := by
  refine ⟨(j + h) / (2 * h + 1), (j + h) % (2 * h + 1) - h, ?_, ?_, ?_⟩
  · have := Int.mul_ediv_add_emod (j + h) (2 * h + 1)
    rw [Int.mul_comm] at this
    omega
  · have := Int.emod_nonneg (j + h) (b := 2 * h + 1) (by omega)
    omega
  · have := Int.emod_lt_of_pos (j + h) (b := 2 * h + 1) (by omega)
    omega
/-- by an odd number of steps -/
theorem never_odd {r : Way} (hr : isHalf r = true) {h : Int} (h0 : 0 ≤ h) (tie : ∀ s : Int, tieUp r (s * (2 * h + 1) + h) = tieUp r s) (u : Rat) : twiceT r (2 * h + 1) u = onceT r (2 * h + 1) u := by
  have hm : 0 < 2 * h + 1 := by omega
  have c : (((2 * h + 1 : Int)) : Rat) = 2 * (h : Rat) + 1 := by rw [Rat.intCast_add, Rat.intCast_mul]; rfl
  have hq : (0 : Rat) ≤ (h : Rat) := Rat.intCast_nonneg.mpr h0
  unfold twiceT onceT
  rcases near_or_mid u with ⟨j, h1, h2⟩ | ⟨l, hl⟩
  · obtain ⟨s, e, ej, e1, e2⟩ := split_odd j h h0
    have q1 : -(h : Rat) ≤ (e : Rat) := by have := Rat.intCast_le_intCast.mpr e1; rw [Rat.intCast_neg] at this; exact this
    have q2 : (e : Rat) ≤ (h : Rat) := Rat.intCast_le_intCast.mpr e2
    have ejq : (j : Rat) = (s : Rat) * (2 * (h : Rat) + 1) + (e : Rat) := by rw [ej, Rat.intCast_add, Rat.intCast_mul, c]
    rw [taken_near hr h1 h2, div_near hr hm (s := s) (by rw [c]; grind) (by rw [c]; grind), div_near hr hm (s := s) (by rw [c]; grind) (by rw [c]; grind)]
  · obtain ⟨s, e, ej, e1, e2⟩ := split_odd l h h0
    have q1 : -(h : Rat) ≤ (e : Rat) := by have := Rat.intCast_le_intCast.mpr e1; rw [Rat.intCast_neg] at this; exact this
    have ejq : (l : Rat) = (s : Rat) * (2 * (h : Rat) + 1) + (e : Rat) := by rw [ej, Rat.intCast_add, Rat.intCast_mul, c]
    subst hl
    rw [taken_mid hr l]
    by_cases he : e = h
    · subst he
      rw [ej, tie s]
      rw [div_mid hr hm (s := s) (n := ((s * (2 * e + 1) + e : Int) : Rat) + 1 / 2) (by rw [← ej, ejq, c]; grind)]
      cases tieUp r s with
      | true =>
        rw [if_pos rfl, if_pos rfl]
        exact div_near hr hm (by simp only [Rat.intCast_add, Rat.intCast_mul, Rat.intCast_sub, Rat.intCast_ofNat, Rat.intCast_one]; grind) (by simp only [Rat.intCast_add, Rat.intCast_mul, Rat.intCast_sub, Rat.intCast_ofNat, Rat.intCast_one]; grind)
      | false =>
        rw [if_neg Bool.false_ne_true, if_neg Bool.false_ne_true]
        exact div_near hr hm (by simp only [Rat.intCast_add, Rat.intCast_mul, Rat.intCast_sub, Rat.intCast_ofNat, Rat.intCast_one]; grind) (by simp only [Rat.intCast_add, Rat.intCast_mul, Rat.intCast_sub, Rat.intCast_ofNat, Rat.intCast_one]; grind)
    · have q2 : (e : Rat) + 1 ≤ (h : Rat) := by
        have := Rat.intCast_le_intCast.mpr (show e + 1 ≤ h by omega)
        rw [Rat.intCast_add] at this
        exact this
      rw [div_near hr hm (s := s) (n := (l : Rat) + 1 / 2) (by rw [c]; grind) (by rw [c]; grind)]
      split
      · exact div_near hr hm (by simp only [Rat.intCast_add, Rat.intCast_mul, Rat.intCast_sub, Rat.intCast_ofNat, Rat.intCast_one]; grind) (by simp only [Rat.intCast_add, Rat.intCast_mul, Rat.intCast_sub, Rat.intCast_ofNat, Rat.intCast_one]; grind)
      · exact div_near hr hm (by rw [c]; grind) (by rw [c]; grind)
/-! ### the ways that look at no halves -/
theorem low_eq (n : Rat) : takenQ .low n = n.floor := by
  unfold takenQ
  split <;> rfl
theorem part_zero {n : Rat} : (partQ n).num = 0 ↔ n = (n.floor : Rat) := by
  rw [Rat.num_eq_zero]
  unfold partQ
  constructor <;> intro h <;> grind
/-- the greater neighbour is told by inequalities -/
theorem high_of {n : Rat} {t : Int} (h1 : (t : Rat) - 1 < n) (h2 : n ≤ (t : Rat)) : takenQ .high n = t := by
  have a := Rat.floor_le n
  have b := Rat.lt_floor_add_one n
  rw [Rat.intCast_add] at b
  unfold takenQ
  by_cases h : n = (n.floor : Rat)
  · rw [if_pos (part_zero.mpr h)]
    have x1 : n.floor < t + 1 := Rat.intCast_lt_intCast.mp (by rw [Rat.intCast_add]; grind)
    have x2 : t - 1 < n.floor := Rat.intCast_lt_intCast.mp (by rw [Rat.intCast_sub]; grind)
    omega
  · rw [if_neg (fun z => h (part_zero.mp z)), if_pos (show ruleB .high n.floor (partQ n) = true from rfl)]
    have x1 : n.floor < t := Rat.intCast_lt_intCast.mp (by grind)
    have x2 : t - 1 < n.floor + 1 := Rat.intCast_lt_intCast.mp (by rw [Rat.intCast_sub, Rat.intCast_add]; grind)
    omega
theorem high_is (n : Rat) : (takenQ .high n : Rat) - 1 < n ∧ n ≤ (takenQ .high n : Rat) := by
  have a := Rat.floor_le n
  have b := Rat.lt_floor_add_one n
  rw [Rat.intCast_add] at b
  unfold takenQ
  by_cases h : n = (n.floor : Rat)
  · rw [if_pos (part_zero.mpr h)]
    grind
  · rw [if_neg (fun z => h (part_zero.mp z)), if_pos (show ruleB .high n.floor (partQ n) = true from rfl), Rat.intCast_add]
    grind
theorem low_of {n : Rat} {t : Int} (h1 : (t : Rat) ≤ n) (h2 : n < (t : Rat) + 1) : takenQ .low n = t := by
  rw [low_eq]
  have x1 : t ≤ n.floor := Rat.le_floor_iff.mpr h1
  have x2 : n.floor < t + 1 := Rat.floor_lt_iff.mpr (by rw [Rat.intCast_add]; exact h2)
  omega
theorem up_eq (n : Rat) : takenQ .up n = if 0 ≤ n.floor then takenQ .high n else takenQ .low n := by
  unfold takenQ
  by_cases h : (partQ n).num = 0
  · rw [if_pos h, if_pos h, if_pos h]; split <;> rfl
  · rw [if_neg h, if_neg h, if_neg h]
    show (if decide (0 ≤ n.floor) = true then _ else _) = _
    by_cases z : 0 ≤ n.floor
    · rw [if_pos (decide_eq_true z), if_pos z]; rfl
    · rw [if_neg (by simpa using z), if_neg z]; rfl
theorem down_eq (n : Rat) : takenQ .down n = if n.floor < 0 then takenQ .high n else takenQ .low n := by
  unfold takenQ
  by_cases h : (partQ n).num = 0
  · rw [if_pos h, if_pos h, if_pos h]; split <;> rfl
  · rw [if_neg h, if_neg h, if_neg h]
    show (if decide (n.floor < 0) = true then _ else _) = _
    by_cases z : n.floor < 0
    · rw [if_pos (decide_eq_true z), if_pos z]; rfl
    · rw [if_neg (by simpa using z), if_neg z]; rfl
theorem low_is (n : Rat) : (takenQ .low n : Rat) ≤ n ∧ n < (takenQ .low n : Rat) + 1 := by
  rw [low_eq]
  have b := Rat.lt_floor_add_one n
  rw [Rat.intCast_add] at b
  exact ⟨Rat.floor_le n, b⟩
/-- of a whole number of steps: by wholes alone -/
theorem low_div {m : Int} (hm : 0 < m) (u : Rat) : takenQ .low ((takenQ .low u : Rat) / (m : Rat)) = takenQ .low (u / (m : Rat)) := by
  have hm' : (0 : Rat) < (m : Rat) := Rat.intCast_pos.mpr hm
  obtain ⟨a, b⟩ := low_is (u / (m : Rat))
  obtain ⟨c, d⟩ := low_is u
  generalize takenQ .low (u / (m : Rat)) = t at *
  generalize takenQ .low u = j at *
  have e : u / (m : Rat) * m = u := by grind
  have a' : (t : Rat) * m ≤ u := by rw [← e]; exact Rat.mul_le_mul_of_nonneg_right a (Rat.le_of_lt hm')
  have b' : u < ((t : Rat) + 1) * m := by rw [← e]; exact Rat.mul_lt_mul_of_pos_right b hm'
  have x1 : t * m < j + 1 := Rat.intCast_lt_intCast.mp (by rw [Rat.intCast_add, Rat.intCast_mul]; grind)
  have x2 : j < (t + 1) * m := Rat.intCast_lt_intCast.mp (by rw [Rat.intCast_mul, Rat.intCast_add]; grind)
  have y1 : (t : Rat) * m ≤ (j : Rat) := by rw [← Rat.intCast_mul]; exact Rat.intCast_le_intCast.mpr (by omega)
  have y2 : (j : Rat) < ((t : Rat) + 1) * m := by have := Rat.intCast_lt_intCast.mpr x2; rw [Rat.intCast_mul, Rat.intCast_add] at this; exact this
  refine low_of ?_ ((Rat.div_lt_iff hm').mpr y2)
  have := (Rat.not_lt (a := (j : Rat) / m) (b := (t : Rat))).mp (fun z => by
    have := (Rat.div_lt_iff hm').mp z
    grind)
  exact this
theorem high_div {m : Int} (hm : 0 < m) (u : Rat) : takenQ .high ((takenQ .high u : Rat) / (m : Rat)) = takenQ .high (u / (m : Rat)) := by
  have hm' : (0 : Rat) < (m : Rat) := Rat.intCast_pos.mpr hm
  obtain ⟨a, b⟩ := high_is (u / (m : Rat))
  obtain ⟨c, d⟩ := high_is u
  generalize takenQ .high (u / (m : Rat)) = t at *
  generalize takenQ .high u = j at *
  have e : u / (m : Rat) * m = u := by grind
  have a' : ((t : Rat) - 1) * m < u := by rw [← e]; exact Rat.mul_lt_mul_of_pos_right a hm'
  have b' : u ≤ (t : Rat) * m := by rw [← e]; exact Rat.mul_le_mul_of_nonneg_right b (Rat.le_of_lt hm')
  have x1 : (t - 1) * m < j := Rat.intCast_lt_intCast.mp (by rw [Rat.intCast_mul, Rat.intCast_sub]; grind)
  have x2 : j - 1 < t * m := Rat.intCast_lt_intCast.mp (by rw [Rat.intCast_sub, Rat.intCast_mul]; grind)
  have y1 : ((t : Rat) - 1) * m < (j : Rat) := by have := Rat.intCast_lt_intCast.mpr x1; rw [Rat.intCast_mul, Rat.intCast_sub] at this; exact this
  have y2 : (j : Rat) ≤ (t : Rat) * m := by rw [← Rat.intCast_mul]; exact Rat.intCast_le_intCast.mpr (by omega)
  refine high_of ((Rat.lt_div_iff hm').mpr y1) ?_
  exact (Rat.not_lt (a := (t : Rat)) (b := (j : Rat) / m)).mp (fun z => by
    have := (Rat.lt_div_iff hm').mp z
    grind)
theorem floor_nn {n : Rat} : 0 ≤ n.floor ↔ 0 ≤ n := by
  rw [Rat.le_floor_iff]; rfl
theorem div_nn {m : Int} (hm : 0 < m) {n : Rat} : 0 ≤ n / (m : Rat) ↔ 0 ≤ n := by
  have hm' : (0 : Rat) < (m : Rat) := Rat.intCast_pos.mpr hm
  constructor
  · intro h
    have e : n / (m : Rat) * m = n := by grind
    rw [← e]
    exact Rat.mul_nonneg h (Rat.le_of_lt hm')
  · intro h
    exact (Rat.not_lt).mp (fun z => by
      have := (Rat.div_lt_iff hm').mp z
      grind)
theorem never_whole {r : Way} (hr : isHalf r = false) {m : Int} (hm : 0 < m) (u : Rat) : twiceT r m u = onceT r m u := by
  unfold twiceT onceT
  cases r with
  | hup => cases hr
  | hdown => cases hr
  | heven => cases hr
  | hodd => cases hr
  | low => exact low_div hm u
  | high => exact high_div hm u
  | up =>
    obtain ⟨c, d⟩ := high_is u
    obtain ⟨c2, d2⟩ := low_is u
    by_cases h : 0 ≤ u
    · have hj : (0 : Rat) ≤ (takenQ .high u : Rat) := Rat.le_trans h d
      rw [up_eq u, if_pos (floor_nn.mpr h), up_eq, if_pos (floor_nn.mpr ((div_nn hm).mpr hj)), up_eq, if_pos (floor_nn.mpr ((div_nn hm).mpr h)), high_div hm]
    · have hj : ¬ (0 : Rat) ≤ (takenQ .low u : Rat) := fun z => h (Rat.le_trans z c2)
      rw [up_eq u, if_neg (fun z => h (floor_nn.mp z)), up_eq, if_neg (fun z => hj ((div_nn hm).mp (floor_nn.mp z))), up_eq, if_neg (fun z => h ((div_nn hm).mp (floor_nn.mp z))), low_div hm]
  | down =>
    obtain ⟨c, d⟩ := high_is u
    obtain ⟨c2, d2⟩ := low_is u
    have neg : ∀ n : Rat, n.floor < 0 ↔ ¬ 0 ≤ n := fun n => by
      rw [← floor_nn]
      omega
    by_cases h : 0 ≤ u
    · have j0 : 0 ≤ takenQ .low u := by rw [low_eq]; exact floor_nn.mpr h
      have hj : (0 : Rat) ≤ (takenQ .low u : Rat) := Rat.intCast_nonneg.mpr j0
      rw [down_eq u, if_neg (fun z => (neg u).mp z h), down_eq, if_neg (fun z => (neg _).mp z ((div_nn hm).mpr hj)), down_eq, if_neg (fun z => (neg _).mp z ((div_nn hm).mpr h)), low_div hm]
    · rw [down_eq u, if_pos ((neg u).mpr h), down_eq (u / (m : Rat)), if_pos ((neg _).mpr fun z => h ((div_nn hm).mp z)), ← high_div hm u]
      by_cases hj : 0 ≤ (takenQ .high u : Rat)
      · have e0 : takenQ .high u = 0 := by
          have x1 : 0 ≤ takenQ .high u := Rat.intCast_nonneg.mp hj
          have x2 : takenQ .high u - 1 < 0 := Rat.intCast_neg_iff.mp (by rw [Rat.intCast_sub]; grind)
          omega
        rw [e0]
        have e1 : ((0 : Int) : Rat) / (m : Rat) = ((0 : Int) : Rat) := by grind
        rw [e1, taken_int, taken_int]
      · rw [down_eq, if_pos ((neg _).mpr fun z => hj ((div_nn hm).mp z))]
/-! ### the three numbers that are tried -/
def partsW (r : Way) (m : Int) : Bool := isHalf r && (decide (m % 2 = 0) || ((match r with | .heven => true | .hodd => true | _ => false) && decide (m % 4 = 3)))
def candU (m : Int) : List Rat := [(m : Rat) / 2 - 1 / 4, (m : Rat) / 2, (m : Rat) / 2 + 1 / 4]
theorem never_of {r : Way} {m : Int} (hm : 2 ≤ m) (h : partsW r m = false) (u : Rat) : twiceT r m u = onceT r m u := by
  cases hr : isHalf r with
  | false => exact never_whole hr (by omega) u
  | true =>
    have hodd : m % 2 = 1 := by
      by_cases z : m % 2 = 0
      · unfold partsW at h
        rw [hr, decide_eq_true z] at h
        cases h
      · omega
    obtain ⟨k, rfl⟩ : ∃ k, m = 2 * k + 1 := ⟨m / 2, by omega⟩
    refine never_odd hr (by omega) (fun s => ?_) u
    have key : s * (2 * k + 1) + k = 2 * (s * k) + s + k := by grind
    cases r with
    | up => cases hr
    | down => cases hr
    | high => cases hr
    | low => cases hr
    | hup =>
      show decide (0 ≤ s * (2 * k + 1) + k) = decide (0 ≤ s)
      rw [decide_eq_decide]
      constructor
      · intro z
        by_cases q : 0 ≤ s
        · exact q
        · have : s * (2 * k + 1) ≤ -1 * (2 * k + 1) := Int.mul_le_mul_of_nonneg_right (by omega) (by omega)
          omega
      · intro z
        have := Int.mul_nonneg z (show 0 ≤ 2 * k + 1 by omega)
        omega
    | hdown =>
      show decide (s * (2 * k + 1) + k < 0) = decide (s < 0)
      rw [decide_eq_decide]
      constructor
      · intro z
        by_cases q : s < 0
        · exact q
        · have := Int.mul_nonneg (show 0 ≤ s by omega) (show 0 ≤ 2 * k + 1 by omega)
          omega
      · intro z
        have : s * (2 * k + 1) ≤ -1 * (2 * k + 1) := Int.mul_le_mul_of_nonneg_right (by omega) (by omega)
        omega
    | heven =>
      have h4 : ¬ (2 * k + 1) % 4 = 3 := fun z => by
        unfold partsW at h
        rw [decide_eq_true z, Bool.and_true, Bool.or_true] at h
        cases h
      show decide ((s * (2 * k + 1) + k) % 2 = 1) = decide (s % 2 = 1)
      rw [decide_eq_decide, key]
      omega
    | hodd =>
      have h4 : ¬ (2 * k + 1) % 4 = 3 := fun z => by
        unfold partsW at h
        rw [decide_eq_true z, Bool.and_true, Bool.or_true] at h
        cases h
      show decide ((s * (2 * k + 1) + k) % 2 = 0) = decide (s % 2 = 0)
      rw [decide_eq_decide, key]
      omega
theorem some_of {r : Way} {m : Int} (hm : 2 ≤ m) (h : partsW r m = true) : ∃ u ∈ candU m, twiceT r m u ≠ onceT r m u := by
  have hr : isHalf r = true := by
    unfold partsW at h
    exact (Bool.and_eq_true_iff.mp h).1
  have hmq : (2 : Rat) ≤ (m : Rat) := by have := Rat.intCast_le_intCast.mpr hm; exact this
  unfold twiceT onceT
  by_cases z : m % 2 = 0
  · obtain ⟨k, rfl⟩ : ∃ k, m = 2 * k := ⟨m / 2, by omega⟩
    have c : (((2 * k : Int)) : Rat) = 2 * (k : Rat) := by rw [Rat.intCast_mul]; rfl
    have hk : (1 : Rat) ≤ (k : Rat) := by have := Rat.intCast_le_intCast.mpr (show 1 ≤ k by omega); exact this
    have c0 : ((0 : Int) : Rat) = 0 := rfl
    have c1 : ((1 : Int) : Rat) = 1 := rfl
    have e1 : takenQ r ((((2 * k : Int)) : Rat) / 2 - 1 / 4) = k := taken_near hr (by rw [c]; grind) (by rw [c]; grind)
    have e3 : takenQ r ((((2 * k : Int)) : Rat) / 2 + 1 / 4) = k := taken_near hr (by rw [c]; grind) (by rw [c]; grind)
    have ek : takenQ r ((k : Rat) / ((2 * k : Int) : Rat)) = if tieUp r 0 = true then 0 + 1 else 0 := div_mid hr (by omega) (by rw [c, c0]; grind)
    cases t : tieUp r 0 with
    | true =>
      refine ⟨_, List.mem_cons_self, ?_⟩
      rw [e1, ek, t, if_pos rfl, div_near hr (by omega) (s := 0) (by rw [c, c0]; grind) (by rw [c, c0]; grind)]
      decide
    | false =>
      refine ⟨_, List.mem_cons_of_mem _ (List.mem_cons_of_mem _ List.mem_cons_self), ?_⟩
      rw [e3, ek, t, if_neg Bool.false_ne_true, div_near hr (by omega) (s := 1) (by rw [c, c1]; grind) (by rw [c, c1]; grind)]
      decide
  · obtain ⟨k, rfl⟩ : ∃ k, m = 2 * k + 1 := ⟨m / 2, by omega⟩
    have c : (((2 * k + 1 : Int)) : Rat) = 2 * (k : Rat) + 1 := by rw [Rat.intCast_add, Rat.intCast_mul]; rfl
    have hk : (1 : Rat) ≤ (k : Rat) := by have := Rat.intCast_le_intCast.mpr (show 1 ≤ k by omega); exact this
    have c0 : ((0 : Int) : Rat) = 0 := rfl
    have c1 : ((1 : Int) : Rat) = 1 := rfl
    have e2 : takenQ r ((((2 * k + 1 : Int)) : Rat) / 2) = if tieUp r k = true then k + 1 else k := by
      rw [← taken_mid hr k]
      congr 1
      rw [c]; grind
    have o2 : takenQ r ((((2 * k + 1 : Int)) : Rat) / 2 / ((2 * k + 1 : Int) : Rat)) = if tieUp r 0 = true then 0 + 1 else 0 := div_mid hr (by omega) (by rw [c0]; grind)
    have h4 : (2 * k + 1) % 4 = 3 ∧ (r = .heven ∨ r = .hodd) := by
      unfold partsW at h
      rw [hr, decide_eq_false z] at h
      cases r <;> simp_all
    refine ⟨_, List.mem_cons_of_mem _ List.mem_cons_self, ?_⟩
    have up1 : takenQ r (((k + 1 : Int) : Rat) / ((2 * k + 1 : Int) : Rat)) = 1 := div_near hr (by omega) (by simp only [Rat.intCast_add, Rat.intCast_mul, Rat.intCast_sub, Rat.intCast_ofNat, Rat.intCast_one]; grind) (by simp only [Rat.intCast_add, Rat.intCast_mul, Rat.intCast_sub, Rat.intCast_ofNat, Rat.intCast_one]; grind)
    have lo1 : takenQ r ((k : Rat) / ((2 * k + 1 : Int) : Rat)) = 0 := div_near hr (by omega) (by rw [c, c0]; grind) (by rw [c, c0]; grind)
    rw [e2, o2]
    obtain ⟨h4, rfl | rfl⟩ := h4
    · have t1 : tieUp .heven k = true := decide_eq_true (by omega)
      rw [t1, if_pos rfl, up1]
      decide
    · have t1 : tieUp .hodd k = false := decide_eq_false (by omega)
      rw [t1, if_neg Bool.false_ne_true, lo1]
      decide
end My

namespace My
/-! ### farther by whole numbers; sizes -/
theorem taken_within (r : Way) (u : Rat) : (takenQ r u : Rat) < u + 1 ∧ u - 1 < (takenQ r u : Rat) := by
  have a := Rat.floor_le u
  have b := Rat.lt_floor_add_one u
  rw [Rat.intCast_add] at b
  unfold takenQ
  by_cases h : u = (u.floor : Rat)
  · rw [if_pos (part_zero.mpr h)]
    grind
  · rw [if_neg (fun z => h (part_zero.mp z))]
    split
    · rw [Rat.intCast_add]; grind
    · grind
theorem floor_shift (u : Rat) (j : Int) : (u + (j : Rat)).floor = u.floor + j := by
  have a := Rat.floor_le u
  have b := Rat.lt_floor_add_one u
  rw [Rat.intCast_add] at b
  have x : u.floor + j ≤ (u + (j : Rat)).floor := Rat.le_floor_iff.mpr (by rw [Rat.intCast_add]; grind)
  have y : (u + (j : Rat)).floor < u.floor + j + 1 := Rat.floor_lt_iff.mpr (by rw [Rat.intCast_add, Rat.intCast_add]; grind)
  omega
theorem part_shift (u : Rat) (j : Int) : partQ (u + (j : Rat)) = partQ u := by
  unfold partQ
  rw [floor_shift, Rat.intCast_add]
  grind
theorem rule_shift (r : Way) {l j : Int} (p : Rat) (hl : 0 ≤ l) (hj : 0 ≤ j) (h2 : j % 2 = 0) : ruleB r (l + j) p = ruleB r l p := by
  have e1 : decide (0 ≤ l + j) = decide (0 ≤ l) := by rw [decide_eq_decide]; omega
  have e2 : decide (l + j < 0) = decide (l < 0) := by rw [decide_eq_decide]; omega
  have e3 : decide ((l + j) % 2 = 1) = decide (l % 2 = 1) := by rw [decide_eq_decide]; omega
  have e4 : decide ((l + j) % 2 = 0) = decide (l % 2 = 0) := by rw [decide_eq_decide]; omega
  cases r <;> simp only [ruleB, e1, e2, e3, e4]
theorem taken_shift (r : Way) {u : Rat} {j : Int} (hu : 0 ≤ u) (hj : 0 ≤ j) (h2 : j % 2 = 0) : takenQ r (u + (j : Rat)) = takenQ r u + j := by
  unfold takenQ
  rw [part_shift, floor_shift, rule_shift r _ (floor_nn.mpr hu) hj h2]
  split
  · rfl
  · split <;> omega
theorem taken_nn (r : Way) {u : Rat} (hu : 0 ≤ u) : 0 ≤ takenQ r u := by
  have := floor_nn.mpr hu
  unfold takenQ
  split
  · exact this
  · split <;> omega
theorem twice_shift (r : Way) {m j : Int} {u : Rat} (hm : 0 < m) (hu : 0 ≤ u) (hj : 0 ≤ j) (h2 : j % 2 = 0) : twiceT r m (u + (j : Rat) * m) = twiceT r m u + j ∧ onceT r m (u + (j : Rat) * m) = onceT r m u + j := by
  have hm' : (0 : Rat) < (m : Rat) := Rat.intCast_pos.mpr hm
  have h3 : j * m % 2 = 0 := by
    obtain ⟨q, rfl⟩ : ∃ q, j = 2 * q := ⟨j / 2, by omega⟩
    rw [Int.mul_assoc]; omega
  have h4 : 0 ≤ j * m := Int.mul_nonneg hj (by omega)
  have e : (j : Rat) * (m : Rat) = ((j * m : Int) : Rat) := (Rat.intCast_mul _ _).symm
  unfold twiceT onceT
  constructor
  · rw [e, taken_shift r hu h4 h3, Rat.intCast_add, Rat.intCast_mul]
    have q : ((takenQ r u : Rat) + (j : Rat) * (m : Rat)) / (m : Rat) = (takenQ r u : Rat) / (m : Rat) + (j : Rat) := by grind
    rw [q, taken_shift r ((div_nn hm).mpr (Rat.intCast_nonneg.mpr (taken_nn r hu))) hj h2]
  · have q : (u + (j : Rat) * (m : Rat)) / (m : Rat) = u / (m : Rat) + (j : Rat) := by grind
    rw [q, taken_shift r ((div_nn hm).mpr hu) hj h2]
def absQ (x : Rat) : Rat := Rat.divInt (if x.num < 0 then -x.num else x.num) (x.den : Int)
theorem absQ_eq (x : Rat) : absQ x = if 0 ≤ x then x else -x := by
  unfold absQ
  by_cases h : 0 ≤ x
  · have : 0 ≤ x.num := Rat.num_nonneg.mpr h
    rw [if_pos h, if_neg (by omega), Rat.num_divInt_den]
  · have : ¬ 0 ≤ x.num := fun z => h (Rat.num_nonneg.mp z)
    rw [if_neg h, if_pos (by omega), ← Rat.neg_divInt, Rat.num_divInt_den]
theorem absQ_lt {x y : Rat} (h1 : x < y) (h2 : -y < x) : absQ x < y := by
  rw [absQ_eq]
  split <;> grind
theorem absQ_bd {n : Nat} {x : Rat} (h : Bd n x) : Bd n (absQ x) := by
  have := h.1
  refine Bd.of (den_ne x) (by split <;> omega) (by have := h.2; omega)
theorem lt_dec (x y : Rat) : decide (x < y) = decide (x.num * (y.den : Int) < y.num * (x.den : Int)) := by
  rw [decide_eq_decide]
  exact Rat.lt_iff x y
/-- rounded, a number lies within a step -/
theorem step_within {r : Way} {n x : Rat} (hx : 0 < x) : absQ (n - x * (takenQ r (n / x) : Rat)) < x := by
  obtain ⟨a, b⟩ := taken_within r (n / x)
  have e : n = n / x * x := by grind
  have p : (takenQ r (n / x) : Rat) * x < (n / x + 1) * x := Rat.mul_lt_mul_of_pos_right a hx
  have q : (n / x - 1) * x < (takenQ r (n / x) : Rat) * x := Rat.mul_lt_mul_of_pos_right b hx
  refine absQ_lt ?_ ?_ <;> grind
end My

namespace My
/-! ### what is due, told by whole numbers -/
theorem taken_of {r : Way} {i p0 p1 : Int} (h0 : 0 < p0) (h1 : p0 < p1) : takenQ r ((i : Rat) + Rat.divInt p0 p1) = if ruleB r i (Rat.divInt p0 p1) = true then i + 1 else i := by
  have a : (0 : Rat) < (p0 : Rat) := Rat.intCast_pos.mpr h0
  have b : (p0 : Rat) < (p1 : Rat) := Rat.intCast_lt_intCast.mpr h1
  have q : (0 : Rat) < (p1 : Rat) := by grind
  refine taken_add ?_ ?_
  · rw [Rat.divInt_eq_div]
    exact (Rat.lt_div_iff q).mpr (by grind)
  · rw [Rat.divInt_eq_div]
    exact (Rat.div_lt_iff q).mpr (by grind)
theorem nearer_div {p0 p1 : Int} (h0 : 0 < p0) (h1 : p0 < p1) (a : Bool) : nearerB (Rat.divInt p0 p1) a = if 2 * p0 = p1 then a else decide (p1 < 2 * p0) := by
  have q : (0 : Rat) < (p1 : Rat) := Rat.intCast_pos.mpr (by omega)
  have e2 : ((2 * p0 : Int) : Rat) = 2 * (p0 : Rat) := by rw [Rat.intCast_mul]; rfl
  rw [Rat.divInt_eq_div]
  by_cases z : 2 * p0 = p1
  · have p2 : (p1 : Rat) = 2 * (p0 : Rat) := by rw [← z]; exact e2
    have : (p0 : Rat) / (p1 : Rat) = 1 / 2 := by rw [p2]; rw [p2] at q; grind
    rw [if_pos z, this, nearerB_mid]
  · rw [if_neg z]
    by_cases y : p1 < 2 * p0
    · have : (p1 : Rat) < 2 * (p0 : Rat) := by rw [← e2]; exact Rat.intCast_lt_intCast.mpr y
      rw [decide_eq_true y, nearerB_hi ((Rat.lt_div_iff q).mpr (by grind))]
    · have : 2 * (p0 : Rat) < (p1 : Rat) := by rw [← e2]; exact Rat.intCast_lt_intCast.mpr (by omega)
      rw [decide_eq_false y, nearerB_lo ((Rat.div_lt_iff q).mpr (by grind))]
/-- the number of steps, as a whole and a part of one -/
theorem steps_split {t b c d : Int} (hb : 0 < b) (hc : 0 < c) (hd : 0 < d) : Rat.divInt t b / Rat.divInt c d = ((t * d / (b * c) : Int) : Rat) + Rat.divInt (t * d - t * d / (b * c) * (b * c)) (b * c) := by
  have hb' : (b : Rat) ≠ 0 := by simp; omega
  have hc' : (c : Rat) ≠ 0 := by simp; omega
  have hd' : (d : Rat) ≠ 0 := by simp; omega
  have e1 : Rat.divInt t b / Rat.divInt c d = ((t * d : Int) : Rat) / ((b * c : Int) : Rat) := by
    rw [Rat.divInt_eq_div, Rat.divInt_eq_div, Rat.intCast_mul, Rat.intCast_mul]
    grind
  have hB : ((b * c : Int) : Rat) ≠ 0 := by rw [Rat.intCast_mul]; grind
  rw [e1, Rat.divInt_eq_div, Rat.intCast_sub, Rat.intCast_mul (t * d / (b * c))]
  generalize ((t * d : Int) : Rat) = x at *
  generalize ((b * c : Int) : Rat) = y at *
  generalize ((t * d / (b * c) : Int) : Rat) = z at *
  grind
end My

namespace My
open PySem L2
/-! ### == and != of two objects of an own class with an own == -/
section
variable {X : Cx} {C f : Addr} {fd : FuncData} {ps : List Str} {n : Nat} {sp : Sp}
/-- the own == as it runs, within X or one builtin deeper -/
theorem run_eq {A : Around} {pins : List (Addr × Obj)} {σ : L2.St} {H : Hp} {s : Shared} {a b : Addr} {Q : VK} {E : XK} (F : FnOk X.prog X.w X.K X.mg X.base CX0 n f fd ps sp) (hb : Binds X.K fd ps []) (hr : Room n A) (hfr : A.frames = X.A.frames)
    (I : Inv X pins σ H s) (h : sp [.ref a, .ref b] H Q E) : wpAny (model X.prog X.w) A (call (.ref f) [.ref a, .ref b]) (EP X pins σ Q) X.xe s := by
  have w0 := I.env0
  have w1 : Env0 X.prog X.w X.K X.mg X.base A X.stack s H := ⟨hfr.trans w0.frames, w0.mod, w0.bs, w0.bsz, w0.funs, w0.frf, w0.hok, w0.bare⟩
  have len2 : 2 = ps.length := F.len _ _ _ _ h
  have bnd : BindsTo s fd ⟨[.ref a, .ref b], []⟩ (ps.zip [.ref a, .ref b]) := by
    have q := hb s [.ref a, .ref b] I.kIn (by simpa using len2)
    simpa using q
  refine wpAny_call (codeAny_mono (F.run A X.stack s H ⟨[.ref a, .ref b], []⟩ [.ref a, .ref b] [.ref a, .ref b] Q E hr w1 bnd (.cons rfl (.cons rfl .nil)) h) ?_)
  intro r s' z
  match r, z with
  | .error _, z => exact z.elim
  | .ok (.ret u), z => exact I.after z
/-- a == b -/
def rEqOwn (C : Addr) (sp : Sp) : R2 := fun x y H Q => ∃ (a b dx dy : Addr) (fs gs : List (Str × V)), x = .ref a ∧ y = .ref b ∧ H a = some (.ins C dx fs) ∧ H b = some (.ins C dy gs) ∧ sp [.ref a, .ref b] H (fun v H' => ∃ k, v = .bl k ∧ Q (.bl k) H') E0
theorem op_eqOwn (F : FnOk X.prog X.w X.K X.mg X.base CX0 n f fd ps sp) (hs : PySem.W.findIn X.K (.ref C) "__eq__" = some (some (.ref f))) (hf : PySem.W.isFn X.K (.ref f) = true) (hb : Binds X.K fd ps []) (hr : Room n X.A) :
    OpR X (compareOp .Eq) (rEqOwn C sp) := by
  rintro pins s σ H x y v u Q I rx ry ⟨a, b, dx, dy, fs, gs, rfl, rfl, ha, hb', q⟩
  cases rx
  cases ry
  obtain ⟨_, J1, _⟩ := ins_get I.hok ha
  obtain ⟨_, J2, _⟩ := ins_get I.hok hb'
  obtain ⟨_, K1, _⟩ := J1.look
  obtain ⟨_, K2, _⟩ := J2.look
  obtain ⟨_, fr⟩ := I.fr
  show wpAny (model X.prog X.w) X.A (richCompare .Eq (.ref a) (.ref b)) _ _ s
  refine PySem.W.cmp_K (op := .Eq) (tb := .ref C) hr.units0 fr I.ok.mod.kin K1 K2.type (by simp [PySem.W.notFirst]) hs hf ?_
  refine thn (run_eq F hb hr rfl I q) ?_
  rintro w s' ⟨z, H', I', rz, k, rfl, qk⟩
  cases rz
  exact ⟨.bl k, H', I', rfl, qk⟩
/-- a != b, no own != -/
def rNeOwn (C : Addr) (sp : Sp) : R2 := fun x y H Q => ∃ (a b dx dy : Addr) (fs gs : List (Str × V)), x = .ref a ∧ y = .ref b ∧ H a = some (.ins C dx fs) ∧ H b = some (.ins C dy gs) ∧ sp [.ref a, .ref b] H (fun v H' => ∃ k, v = .bl k ∧ Q (.bl (!k)) H') E0
theorem ne_run {P : Program} {w : World} {A : Around} {R : Fin → Shared → Prop} {E : Value → Shared → Prop} {K : PySem.W.Frag} {s : Shared} {a b C f : Addr} {ox : Obj} {od : Option Obj} (hu : A.units < cLine) (X : K.In s.heap) (I : PySem.W.InstAt s.heap a ox C od)
    (hs : PySem.W.findIn K (.ref C) "__eq__" = some (some (.ref f))) (hf : PySem.W.isFn K (.ref f) = true) (h : wpAny (model P w) A (call (.ref f) [.ref a, .ref b]) (fun v s' => ∃ k, v = .bool k ∧ R (.done (.ret (.bool (!k)))) s') E s) :
    wpAny (model P w) A (Builtin.«object.__ne__» ⟨[.ref a, .ref b], []⟩) R E s := by
  have e : Builtin.«object.__ne__» ⟨[.ref a, .ref b], []⟩ = (do
      cRoomFor "comparison" [.ref a, .ref b]
      let r ← callSpecialIfBound? (.ref a) "__eq__" [.ref b]
      match r with
      | some .notImplemented | none => PySem.ret .notImplemented
      | some r => PySem.ret (.bool (!(← truthy r)))) := by rfl
  rw [e]
  refine wpAny_bind (wpAny_cRoomFor hu ?_)
  refine wpAny_bind (PySem.W.ifBound_K X I hs hf (wpAny_mono h ?_ fun _ _ z => z))
  rintro v s' ⟨k, rfl, q⟩
  exact wpAny_bind (wpAny_truthy_bool (wpAny_pure q))
theorem op_neOwn (F : FnOk X.prog X.w X.K X.mg X.base CX0 n f fd ps sp) (hs : PySem.W.findIn X.K (.ref C) "__eq__" = some (some (.ref f))) (hf : PySem.W.isFn X.K (.ref f) = true) (hb : Binds X.K fd ps [])
    (hn : PySem.W.findIn X.K (.ref C) "__ne__" = some (some (.builtin "object.__ne__"))) (hm : PySem.W.mroIn X.K C (.type "object") = some true) (hr : Room (n + 1) X.A) :
    OpR X (compareOp .NotEq) (rNeOwn C sp) := by
  rintro pins s σ H x y v u Q I rx ry ⟨a, b, dx, dy, fs, gs, rfl, rfl, ha, hb', q⟩
  cases rx
  cases ry
  obtain ⟨_, J1, _⟩ := ins_get I.hok ha
  obtain ⟨_, J2, _⟩ := ins_get I.hok hb'
  obtain ⟨_, K1, _⟩ := J1.look
  obtain ⟨_, K2, _⟩ := J2.look
  have kin := I.kIn
  have sub : PySem.W.Looks (model X.prog X.w) s.heap (isInstance (.ref a) (.type "object")) true := K1.type.andThen (PySem.W.looks_mroIn kin hm)
  have r1 : Room n X.A.in1 := hr.in1
  have go : wpAny (model X.prog X.w) X.A (call (.builtin "object.__ne__") [.ref a, .ref b]) (fun v s' => v ≠ .notImplemented ∧ EP X pins σ Q v s') X.xe s := by
    refine wpAny_call (codeAny_call_builtin PySem.F.slot_tuple_iterator_ne.plain PySem.F.cmpEntry_ne (PySem.W.check_slot PySem.F.cmpKind_ne PySem.F.cmpSplit_ne sub (PySem.F.cmpArgs_ne _ _) ?_))
    refine ne_run r1.units0 kin K1 hs hf (thn (run_eq F hb r1 rfl I q) ?_)
    rintro w s' ⟨z, H', I', rz, k, rfl, qk⟩
    cases rz
    exact ⟨k, rfl, (fun z => by cases z), .bl (!k), H', I', rfl, qk⟩
  have one : wpAny (model X.prog X.w) X.A (tryCompare (.ref a) "__ne__" (.ref b)) (fun r s' => ∃ v, r = some v ∧ EP X pins σ Q v s') X.xe s := by
    unfold tryCompare
    refine wpAny_bind ?_
    simp only [callSpecialIfBound?, bindSpecialIfBound?]
    have bi : PySem.W.Looks (model X.prog X.w) s.heap (bindSpecial (.builtin "object.__ne__") (.ref a)) (.builtin "object.__ne__", [.ref a]) := PySem.W.Looks.of_pure (PySem.F.slot_tuple_iterator_ne.bind _)
    have last : wpAny (model X.prog X.w) X.A (call (.builtin "object.__ne__") ([.ref a] ++ [.ref b]) >>= fun v => pure (some v)) (fun r s' => wpAny (model X.prog X.w) X.A (match r with | some .notImplemented => pure none | none => pure none | some v => pure (some v)) (fun r s' => ∃ v, r = some v ∧ EP X pins σ Q v s') X.xe s') X.xe s := by
      refine wpAny_bind (thn go ?_)
      rintro v s' ⟨nv, ev⟩
      refine wpAny_pure ?_
      cases v <;> first | exact absurd rfl nv | exact wpAny_pure ⟨_, rfl, ev⟩
    refine wpAny_holding (wpAny_bind (wpAny_bind (wpAny_bind (K1.type.here ((PySem.W.looks_findIn kin hn).here ?_)))))
    refine wpAny_bind (wpAny_askSetting (wpAny_ite ?_))
    split
    · exact wpAny_bind (bi.here (wpAny_pure (by exact last)))
    · exact wpAny_tryCatch (wpAny_bind (bi.here (wpAny_pure (by exact last))))
  show wpAny (model X.prog X.w) X.A (richCompare .NotEq (.ref a) (.ref b)) _ _ s
  unfold richCompare
  simp only [oneThing_ref]
  refine wpAny_holding (wpAny_bind (wpAny_cRoomFor hr.units0 ?_))
  refine wpAny_bind (K1.type.here (wpAny_bind (K2.type.here ?_)))
  have e0 : (Value.ref C != Value.ref C) = false := by simp
  rw [e0]
  simp only [Bool.false_eq_true, if_false]
  refine wpAny_bind (wpAny_pure ?_)
  simp only [Bool.false_eq_true, if_false]
  refine wpAny_bind (wpAny_mono one ?_ fun _ _ z => z)
  rintro r s' ⟨v, rfl, q'⟩
  exact wpAny_pure q'
end
end My

namespace My
open PySem PySem.Spec PyProof.Rows L2
/-! ### promises where no repr is under way -/
/-- a promise of the def at f, for surroundings in which nothing is being shown -/
structure FnG (P : Program) (w : World) (K : PySem.W.Frag) (mg : Str → Option Value) (base : Heap) (k : Nat) (f : Addr) (fd : FuncData) (ps : List Str) (sp : Sp) : Prop where
  len : ∀ vs H Q E, sp vs H Q E → vs.length = ps.length
  run : ∀ (A : Around) (outer : List Env) (s : Shared) (H : Hp) (args : Args) (us : List Value) (vs : List V) (Q : VK) (E : XK), A.guards = some [] → Room k A → Env0 P w K mg base A outer s H → BindsTo s fd args (ps.zip us) → Vals vs us → sp vs H Q E →
    codeAny (model P w) A (.call (.ref f) args) (CR CX0 outer P w H s Q E) s
section
variable {P : Program} {w : World} {K : PySem.W.Frag} {mg : Str → Option Value} {base : Heap}
theorem FnG.by_body {x qual : Str} {st : Stmt} {f : Addr} {fd : FuncData} {N ps : List Str} {k : Nat} {sp : Sp} (F : Fun K x qual st f fd) (S : FnScope N ps (defScope st)) (len : ∀ vs H Q E, sp vs H Q E → vs.length = ps.length)
    (body : ∀ (cdv : Value) (A : Around) (outer : List Env) (s : Shared) (H : Hp) (vs : List V) (Q : VK) (E : XK), A.guards = some [] → Room k (A.deeper (envOfC qual (defScope st) s.heap.objs.size f cdv)) → sp vs H Q E →
      ∃ t, PSs (cxOf CX0 P w K mg base N qual (defScope st) f cdv A outer s H E).nox (defBody st) t ∧ t { nx := fun _ H' => Q .non H', rt := Q } (start N vs) H) : FnG P w K mg base (k + 1) f fd ps sp := by
  obtain ⟨_, _, _, _, _, _, cdv, _, _, rfl, look, code⟩ := F.ex
  constructor
  · exact len
  intro A outer s H args us vs Q E hg hr e0 hb rel hsp
  have n := len _ _ _ _ hsp
  have old : ∀ b o, base.get? b = some o → s.heap.get? b = some o := fun b o e => (e0.bs b o e).1
  have inK : K.In s.heap := e0.mod.kin.keeps old
  obtain ⟨t, ht, q⟩ := body cdv A outer s H vs Q E hg (hr.deeper _) hsp
  have named : ∀ y ∈ ps.zip us, (defScope st).names.lookup y.1 = some .local ∨ ((defScope st).names.lookup y.1 = some .cell ∧ ((cellsFrom (s.heap.objs.size + 1) (defScope st).names []).lookup y.1).isSome = true) := by
    rintro ⟨m, v⟩ hy
    exact (S.par m (List.of_mem_zip hy).1).imp (fun z => z) fun z => ⟨z, PySem.W.cellsFrom_some _ _ _ (.inl z)⟩
  refine codeAny_call_function hr.depth (inK _ _ look) rfl S.co S.gen rfl (PySem.W.codeRec_of inK code) (hb _ _ _ _ (wpAny_newFunctionEnv_cells S.kind named fun env he s1 z => ?_))
  subst he
  refine ⟨(e0.mod.nolimit.keeps old).keeps z.toInCall.keep, codeAny_func (wpAny_mono (ht.nox.run [] s1 (start N vs) H _ (inv_start S hr.hd e0 n rel z) q) ?_ fun _ _ h => h)⟩
  intro fl s' h
  match fl, h with
  | .ret u, ⟨v, σ', H', J, rv, q'⟩ => exact ⟨v, H', J.os, J.bare, J.base, J.hok, rv, q'⟩
  | .next, ⟨σ', H', J, q'⟩ => exact ⟨V.non, H', J.os, J.bare, J.base, J.hok, rfl, q'⟩
  | .brk, ⟨_, _, _, q'⟩ => exact q'.elim
  | .cont, ⟨_, _, _, q'⟩ => exact q'.elim
end
section
variable {X : Cx} {k : Nat} {f : Addr} {fd : FuncData} {ps : List Str} {sp : Sp} {dvs : List V} {ds : List Value} {E : XK} {x : Str} {p pos : Pos} {e : Expr} {es : List Expr} {t : TA}
/-- a call of such a def -/
theorem pe_callG (hA : X.A.guards = some []) (F : FnG X.prog X.w X.K X.mg X.base k f fd ps sp) (hr : Room k X.A) (hg : Gl X x) (hm : X.mg x = some (.ref f)) (hk : PySem.W.keepIn X.K (.ref f) = true) (hb : Binds X.K fd ps ds) (hd : Vals dvs ds) (hx : Passes CX0 X E)
    (ha : PA X (e :: es) t) (hdb : (x == ("__debug__" : Str)) = false := by decide) (he : starEach (e :: es) X.env = (false, eval e X.env) :: starEach es X.env := by rfl) (hpl : (backTo pos (starEach es X.env)).any (·.1) = false := by rfl) :
    PE X (.Call (.Name x p) (e :: es) [] pos) (tCall sp dvs E t) := by
  constructor
  intro pins s σ H Q I h
  refine wpAny_Call_Name_kw (ld_glob I hg hm ?_ hdb)
  refine PySem.W.callWith_K (h₀ := X.base) I.ok.mod.kin hk (thn (ha.run pos pins s σ H _ I h) ?_) he hpl
  rintro us s1 ⟨vs, H1, J, rel, q⟩
  refine ⟨J.kIn, ?_⟩
  have both := rel.append hd
  have n : (us ++ ds).length = ps.length := by rw [← both.length]; exact F.len _ _ _ _ q
  refine wpAny_call (codeAny_mono (F.run X.A X.stack s1 H1 ⟨us, []⟩ (us ++ ds) (vs ++ dvs) Q E hA hr J.env0 (hb s1 us J.kIn n) both q) ?_)
  intro r s' z
  match r, z with
  | .error _, z => exact hx pins σ H1 s1 _ s' J z
  | .ok (.ret _), z => exact J.after z
/-- repr of data -/
def rRepr (K : PySem.W.Frag) : List V → Hp → VK → Prop := fun xs H Q => ∃ (a : Addr) (d : PyData), xs = [.ref a] ∧ Dp K H (.ref a) d ∧ d.showable = true ∧ d.hasDict = false ∧ d.depth ≤ 60 ∧ d.shown.length ≤ sizeLine ∧ Q (.str d.shown) H
theorem call_repr (hA : X.A.guards = some []) (hu : X.A.units + 64 < cLine) : CallR X (.builtin "repr") (rRepr X.K) := by
  rintro pins s σ H xs us Q I r ⟨a, d, rfl, hd, hs, hn, hz, hl, q⟩
  obtain ⟨u, rfl, rx⟩ := vals1 r
  cases rx
  obtain ⟨as, rd⟩ := Dp.reads I d (.ref a) (.ref a) hd rfl
  exact repr_of_reads' rd hs (PyData.noDict_hsm hn) hA (by omega) (fun _ _ e => e) (fun h' u tk hk => ⟨.str d.shown, H, I.kept hk, ⟨_, rfl⟩, q⟩) hl
end
end My
namespace My
open PySem PySem.Spec PyProof.Rows L2
/-! ### the law's call, by such a promise -/
section
variable {P : Program} {w : World} {K : PySem.W.Frag} {mg mb : Str → Option Value} {k : Nat} {fa a : Addr} {fd : FuncData} {x : Str} {sp : Sp} {s₁ : Shared} {vs : List Value} {ns : List Int}
/-- with H tracked: nothing but the script, and not even this where it is the module's own -/
theorem law_with (KX : K.In s₁.heap) (hns : s₁.heap.Ns mainGlobals mg) (hb : s₁.heap.Ns builtinsNs mb) (hbb : ∀ x : Str, x ≠ "__name__" → mb x = bootBuiltins x) (hlim : s₁.heap.NoLimit) (hg : s₁.gens = #[])
    (ha : s₁.heap.get? a = some { cls := .type "list", data := .seq vs.toArray }) (hr : Room k callerA)
    (F : ∀ base : Heap, K.In base → base.Ns mainGlobals mg → FnG P w K mg base k fa fd [x] sp) (hbind : ∀ (s : Shared) (u : Value), BindsTo s fd ⟨[u], []⟩ [(x, u)])
    {H : Hp} (off : ∀ b, b ≠ a → H b = none) (own : K.lookup a ≠ none → H a = none) (frz : ∀ u, H a = some u → ∃ ob xs, u = .frz ob (.lst xs)) (hok : HOk P w H s₁.heap)
    (hsp : sp [.ref a] H (fun v _ => v = .bl true) fun _ _ _ => False) :
    codeAny (model P w) callerA (.call (.ref fa) ⟨[.ref a], []⟩) (fun r s' => r = .ok (.ret (.bool true)) ∧ OldK s₁.heap s'.heap ∧ s'.os = s₁.os ∧ AllBare s'.gens) s₁ := by
  have stays : ∀ {b : Addr} {o : Obj}, s₁.heap.get? b = some o → b ≠ a → (hidT s₁.heap H).get? b = some o := fun e n => hidT_get e (off _ n)
  have dicts : ∀ {b : Addr} {o : Obj} {es : Array DictEntry} {n : Nat}, s₁.heap.get? b = some o → o.data = .dict es n → b ≠ a := by
    rintro b o es n e d rfl
    rw [ha] at e
    cases e
    cases d
  have tables : ∀ {b : Addr} {m : Str → Option Value}, s₁.heap.Ns b m → (hidT s₁.heap H).Ns b m := fun {b m} h => by
    obtain ⟨o, es, n, e, d, r⟩ := h
    exact ⟨o, es, n, stays e (dicts e d), d, r⟩
  have inK : K.In (hidT s₁.heap H) := fun b o e => by
    by_cases z : b = a
    · subst z
      exact hidT_get (KX _ _ e) (own (by rw [e]; simp))
    · exact stays (KX _ _ e) z
  obtain ⟨mc, l1, l2⟩ := hlim
  have e0 : Env0 P w K mg (hidT s₁.heap H) callerA [] s₁ H :=
    ⟨rfl, ⟨inK, tables hns, ⟨mb, tables hb, hbb⟩, mc, tables l1, l2⟩, fun b o e => of_hidT e, Nat.le_of_eq (hidT_size _ _), trivial, fun b hb => absurd (show b ∈ ([] : List Addr) from hb) (by simp), hok, .of_eq hg⟩
  have run := (F _ inK (tables hns)).run callerA [] s₁ H ⟨[.ref a], []⟩ [.ref a] [.ref a] _ _ rfl hr e0 (hbind s₁ (.ref a)) (.cons rfl .nil) hsp
  refine codeAny_mono run ?_
  intro r s' h
  match r, h with
  | .error _, h => exact False.elim h
  | .ok (.ret u), ⟨v, H', os, bare, un, hok', rv, q⟩ =>
    have q' : v = .bl true := q
    subst q'
    obtain rfl : u = Value.bool true := rv
    refine ⟨rfl, OldK.of_keep fun b o e => ?_, os, bare⟩
    cases z : H b with
    | none => exact un.keep b o e z (fun y => absurd (show b ∈ ([] : List Addr) from y) (by simp)) (by simp)
    | some u =>
      have ba : b = a := Classical.byContradiction fun y => by rw [off b y] at z; cases z
      subst ba
      obtain ⟨ob, xs, rfl⟩ := frz u z
      obtain ⟨e1, _⟩ := hok b _ z
      obtain ⟨e2, _⟩ := hok' b _ (un.frzs b ob _ z)
      rw [e] at e1
      cases e1
      exact e2
theorem law_callG (KX : K.In s₁.heap) (hns : s₁.heap.Ns mainGlobals mg) (hb : s₁.heap.Ns builtinsNs mb) (hbb : ∀ x : Str, x ≠ "__name__" → mb x = bootBuiltins x) (hlim : s₁.heap.NoLimit) (hg : s₁.gens = #[])
    (ha : s₁.heap.get? a = some { cls := .type "list", data := .seq vs.toArray }) (hi : IntsAre vs ns) (hl : ns.length ≤ sizeLine) (hr : Room k callerA)
    (F : ∀ base : Heap, K.In base → base.Ns mainGlobals mg → FnG P w K mg base k fa fd [x] sp) (hbind : ∀ (s : Shared) (u : Value), BindsTo s fd ⟨[u], []⟩ [(x, u)])
    (hsp : ∀ H : Hp, SqL K H a (ns.map V.int) → sp [.ref a] H (fun v _ => v = .bl true) fun _ _ _ => False) :
    codeAny (model P w) callerA (.call (.ref fa) ⟨[.ref a], []⟩) (fun r s' => r = .ok (.ret (.bool true)) ∧ OldK s₁.heap s'.heap ∧ s'.os = s₁.os ∧ AllBare s'.gens) s₁ := by
  have rel := vals_ints hi
  by_cases hk : K.lookup a = none
  · let it : HO := .frz { cls := .type "list", data := .seq vs.toArray } (.lst (ns.map V.int))
    have there : upd (fun _ => none) a it a = some it := upd_same
    refine law_with KX hns hb hbb hlim hg ha hr F hbind (H := upd (fun _ => none) a it) (fun b n => upd_ne n) (fun z => absurd hk z) (fun u e => ?_) (fun b u e => ?_) (hsp _ (.inl (.inr ⟨_, there⟩)))
    · rw [there] at e
      cases e
      exact ⟨_, _, rfl⟩
    · by_cases z : b = a
      · subst z
        rw [there] at e
        cases e
        exact ⟨ha, by rw [List.length_map]; exact hl, vs, _, rel, ha⟩
      · rw [upd_ne z] at e
        cases e
  · obtain ⟨o, ho⟩ := Option.ne_none_iff_exists'.mp hk
    have e := KX a o ho
    rw [ha] at e
    cases e
    refine law_with KX hns hb hbb hlim hg ha hr F hbind (H := fun _ => none) (fun b n => rfl) (fun _ => rfl) (fun u e => by cases e) (fun b u e => by cases e) (hsp _ (.inr ⟨_, vs.toArray, _, ho, rfl, rfl, rfl, by rw [List.size_toArray, hi.length]; exact hl, by simpa using rel⟩))
theorem walk_ofG {l : PySem.W.OpenLaw} {n k : Nat} {q : Program} {loose : List Str} {XP : (Str → Option Value) → Heap → Prop} {YP : World → Heap → Prop} {d : DefRec} {K : Params → PySem.W.Frag} {sp : World → Sp} {x : Str}
    (hn : l.most = some n) (hn2 : n ≤ sizeLine) (hdf : d.params.defaults = []) (hr : Room k callerA) (hY : ∀ (w : World) (h : Heap), YP w h → (K w.params).In h)
    (F : ∀ (w : World) (mg : Str → Option Value) (fa : Addr) (h : Heap), (K w.params).In h → h.Ns mainGlobals mg → mg d.name = some (.ref fa) →
      ∃ fd : FuncData, (∀ (s : Shared) (u : Value), BindsTo s fd ⟨[u], []⟩ [(x, u)]) ∧ ∀ base : Heap, (K w.params).In base → base.Ns mainGlobals mg → FnG l.prog w (K w.params) mg base k fa fd [x] (sp w))
    (hsp : ∀ (w : World) (H : Hp) (a : Addr) (ns : List Int), ns.length ≤ n → SqL (K w.params) H a (ns.map V.int) → sp w [.ref a] H (fun v _ => v = .bl true) fun _ _ _ => False) :
    PySem.W.WalkO q loose XP YP l.row.toRowW d [] (fun f vs => PySem.call f vs) := by
  refine Att.attach_call hn hdf fun w s₀ s₁ mg mb fa o pm cd doc a vs ns G Y ho hd hcd hmg hobj hints hlen hg => ?_
  have KX := hY w _ Y
  obtain ⟨fd, hb, hF⟩ := F w mg fa _ KX G.T.g hmg
  exact law_callG KX G.T.g G.T.b G.T.builtins G.T.nolimit hg hobj hints (Nat.le_trans hlen hn2) hr hF hb fun H hS => hsp w H a ns hlen hS
end
end My

namespace My
open PySem PySem.Spec PyProof.Rows L2
section
variable {X : Cx}
/-- repr of data, whatever its kind -/
def rReprA (K : PySem.W.Frag) : List V → Hp → VK → Prop := fun xs H Q => ∃ (x : V) (d : PyData), xs = [x] ∧ Dp K H x d ∧ d.showable = true ∧ d.hasDict = false ∧ d.depth ≤ 60 ∧ d.shown.length ≤ sizeLine ∧ Q (.str d.shown) H
theorem call_reprA (hA : X.A.guards = some []) (hu : X.A.units + 64 < cLine) : CallR X (.builtin "repr") (rReprA X.K) := by
  rintro pins s σ H xs us Q I r ⟨x, d, rfl, hd, hs, hn, hz, hl, q⟩
  obtain ⟨u, rfl, rx⟩ := vals1 r
  cases hd with
  | non =>
    cases rx
    exact PySem.P.repr_of_none ⟨.str _, H, I.tok _, ⟨_, rfl⟩, q⟩
  | bl b =>
    obtain ⟨t, rfl⟩ := rx
    exact PySem.P.repr_of_bool ⟨.str _, H, I.tok _, ⟨_, rfl⟩, q⟩
  | int i =>
    obtain ⟨t, rfl⟩ := rx
    exact PySem.P.repr_of_int (by simpa [PyData.showable] using hs) ⟨.str _, H, I.tok _, ⟨_, rfl⟩, q⟩
  | str z =>
    obtain ⟨t, rfl⟩ := rx
    exact PySem.P.repr_of_str ⟨.str _, H, I.tok _, ⟨_, rfl⟩, q⟩ hl
  | lst h1 h2 =>
    cases rx
    obtain ⟨as, rd⟩ := Dp.reads I _ _ _ (.lst h1 h2) rfl
    exact repr_of_reads' rd hs (PyData.noDict_hsm hn) hA (by omega) (fun _ _ e => e) (fun h' u tk hk => ⟨.str _, H, I.kept hk, ⟨_, rfl⟩, q⟩) hl
  | tup h1 h2 =>
    cases rx
    obtain ⟨as, rd⟩ := Dp.reads I _ _ _ (.tup h1 h2) rfl
    exact repr_of_reads' rd hs (PyData.noDict_hsm hn) hA (by omega) (fun _ _ e => e) (fun h' u tk hk => ⟨.str _, H, I.kept hk, ⟨_, rfl⟩, q⟩) hl
end
/-- none, or a whole number, shown -/
theorem data_opt {d : PyData} (h : d = .none ∨ ∃ i : Int, d = .int i ∧ i.natAbs < 2 ^ 1900) : d.showable = true ∧ d.hasDict = false ∧ d.depth ≤ 60 ∧ d.shown.length ≤ sizeLine := by
  rcases h with rfl | ⟨i, rfl, hi⟩
  · refine ⟨?_, ?_, ?_, ?_⟩ <;> first | rfl | decide +kernel
  · have l1 : i.natAbs.log2 < 1920 := Nat.lt_of_lt_of_le (PySem.Flt.log2_lt_of (by decide) hi) (by decide)
    have s1 : (PyData.shown (.int i)).length ≤ 1921 := PyProof.Rows.int_text_len_1921 l1
    refine ⟨?_, ?_, ?_, ?_⟩
    · simpa only [PyData.showable, decide_eq_true_eq] using l1
    · simp [PyData.hasDict]
    · simp [PyData.depth]
    · exact Nat.le_trans s1 (by decide)
end My

namespace My
open PySem L2
/-- two numbers, shown -/
theorem short_two {a b : Int} (ha : a.natAbs < 2 ^ 1900) (hb : b.natAbs < 2 ^ 1900) : (PyData.shown (.tuple [.int a, .int b])).length ≤ sizeLine := by
  have l1 : a.natAbs.log2 < 1920 := Nat.lt_of_lt_of_le (PySem.Flt.log2_lt_of (by decide) ha) (by decide)
  have l2 : b.natAbs.log2 < 1920 := Nat.lt_of_lt_of_le (PySem.Flt.log2_lt_of (by decide) hb) (by decide)
  have s1 : (PyData.shown (.int a)).length ≤ 1921 := PyProof.Rows.int_text_len_1921 l1
  have s2 : (PyData.shown (.int b)).length ≤ 1921 := PyProof.Rows.int_text_len_1921 l2
  have short : (PyData.tuple [.int a, .int b]).leavesShort 1921 = true := by
    simp only [PyData.leavesShort, PyData.leavesShortAll, Bool.and_true, Bool.and_eq_true, decide_eq_true_eq]
    exact ⟨s1, s2⟩
  have le := PyData.shown_le 1921 (by decide) _ short
  have wt : (PyData.tuple [.int a, .int b]).weight ≤ 4000 := by
    simp only [PyData.weight, PyData.weightAll]
    have wt1 : ∀ i : Int, i.natAbs.log2 < 1920 → (if (i == 0) = true then 0 else i.natAbs.log2 + 1) ≤ 1920 := fun i h => by split <;> omega
    have wa := wt1 a l1
    have wb := wt1 b l2
    omega
  have e : sizeLine = 16777216 := rfl
  omega
theorem data_two {a b : Int} (ha : a.natAbs < 2 ^ 1900) (hb : b.natAbs < 2 ^ 1900) : (PyData.tuple [.int a, .int b]).showable = true ∧ (PyData.tuple [.int a, .int b]).hasDict = false ∧ (PyData.tuple [.int a, .int b]).depth ≤ 60 := by
  refine ⟨?_, ?_, ?_⟩
  · have l1 : a.natAbs.log2 < 1920 := Nat.lt_of_lt_of_le (PySem.Flt.log2_lt_of (by decide) ha) (by decide)
    have l2 : b.natAbs.log2 < 1920 := Nat.lt_of_lt_of_le (PySem.Flt.log2_lt_of (by decide) hb) (by decide)
    simp only [PyData.showable, PyData.showableAll, Bool.and_true, Bool.and_eq_true, decide_eq_true_eq]
    exact ⟨l1, l2⟩
  · simp [PyData.hasDict, PyData.hasDictAll]
  · simp [PyData.depth, PyData.depthAll]
end My

namespace My
open PySem PySem.Spec PyProof.Rows L2 PySem.Builtin PySem.Builtin.Str
/-! ### str(x) of an object with an own __str__ -/
section
variable {P : Program} {w : World} {A : Around} {E : Value → Shared → Prop} {s : Shared} {K : PySem.W.Frag} {a C f : Addr} {ox : Obj} {od : Option Obj}
/-- an own special method, called -/
theorem special_own {name : Str} {xs : List Value} {R : Option Value → Shared → Prop} (X : K.In s.heap) (I : PySem.W.InstAt s.heap a ox C od) (hs : PySem.W.findIn K (.ref C) name = some (some (.ref f))) (hf : PySem.W.isFn K (.ref f) = true)
    (go : wpAny (model P w) A (call (.ref f) (.ref a :: xs)) (fun v => R (some v)) E s) : wpAny (model P w) A (callSpecial? (.ref a) name xs) R E s := by
  unfold callSpecial? specialOf
  refine wpAny_bind (wpAny_bind (I.type.here ((PySem.W.looks_findIn X hs).here (wpAny_holding (wpAny_bind ?_)))))
  refine (PySem.W.bind_fn X _ (beq_iff_eq.mp hf)).here ?_
  exact wpAny_bind (wpAny_mono go (fun v s' q => wpAny_pure q) fun _ _ q => q)
/-- str(v), where the text is told -/
theorem str_call {v : Value} {R : Value → Shared → Prop} (go : wpAny (model P w) A.in1.in1 (strOf v) (fun r t => t.TypeIs r "str" ∧ R r t) E s) : wpAny (model P w) A (call (.type "str") [v]) R E s := by
  have ft := PySem.F.called_str
  obtain ⟨c, tl, m1⟩ := ft.mro
  have m2 := ft.made
  have m3 := ft.sub
  refine wpAny_call (codeAny_of_tree ?_)
  show wpAny _ _ (callAny (.type "str") _) _ _ _
  refine wpAny_pure ⟨Code.quiet_builtin _ (by decide +kernel), codeAny_builtin PySem.F.entry_type_call ?_⟩
  rw [Around.under_plain (weight_type_call_type "str" [v] []) (units_type_call_type "str" [v] [])]
  have n1 := ft.notType
  have n2 := ft.canCreate
  have n3 := PySem.F.typeCall_str_1 v
  repeat (any_goals (first | assumption | wp_step))
  have body : wpAny (model P w) A.in1.in1 («str.__new__» ⟨[.type "str", v], []⟩) (fun fin t => ∃ r, fin = .done (.ret r) ∧ t.TypeIs r "str" ∧ R r t) E s := by
    rw [str_new_tree v]
    refine wpAny_bind (wpAny_pure (wpAny_bind (wpAny_of_eq isSubtype_str_str ?_)))
    exact wpAny_bind (wpAny_mono go (fun r t q => wpAny_pure ⟨r, rfl, q⟩) fun _ _ q => q)
  refine codeAny_mono (codeAny_call_builtin ft.plain PySem.F.entry_str_new (wpAny_of_eq (PySem.F.newCall_str_1 v) (wpAny_mono body (fun fin t q => ?_) fun e t q => ?_))) (R := fun r t => (∃ x, r = .ok (.ret x) ∧ t.TypeIs x "str" ∧ R x t) ∨ (∃ e, r = .error e ∧ E e t)) fun r t q => ?_
  · obtain ⟨r, rfl, q1⟩ := q
    exact .inl ⟨r, rfl, q1⟩
  · exact .inr ⟨e, rfl, q⟩
  · rcases q with ⟨x, rfl, ty, q1⟩ | ⟨e, rfl, q1⟩
    · have i1 := ft.init.lookup
      have i2 := ft.init.bind x
      repeat (any_goals (first | assumption | wp_step))
      refine codeAny_mono (codeAny_call_builtin ft.init.plain PySem.F.entry_object_init (ft.init.check _ _ _ _ _ _ _ _ ty (PySem.F.args_object_init_2 x _) (object_init_meets (rest := [v]) ft.init.lookup ft.made (by decide) P w A.in1 (fun r t' => r = .ok (.ret .none) ∧ R x t') t ⟨ty, rfl, q1⟩))) (R := fun r t' => r = .ok (.ret .none) ∧ R x t') fun r2 t2 q2 => ?_
      obtain ⟨rfl, q3⟩ := q2
      repeat (any_goals (first | assumption | wp_step))
    · exact q1
end
section
variable {X : Cx} {C f : Addr} {fd : FuncData} {ps : List Str} {n : Nat} {sp : Sp}
theorem run_one {A : Around} {pins : List (Addr × Obj)} {σ : L2.St} {H : Hp} {s : Shared} {a : Addr} {Q : VK} {E : XK} (F : FnOk X.prog X.w X.K X.mg X.base CX0 n f fd ps sp) (hb : Binds X.K fd ps []) (hr : Room n A) (hfr : A.frames = X.A.frames)
    (I : Inv X pins σ H s) (h : sp [.ref a] H Q E) : wpAny (model X.prog X.w) A (call (.ref f) [.ref a]) (EP X pins σ Q) X.xe s := by
  have w0 := I.env0
  have w1 : Env0 X.prog X.w X.K X.mg X.base A X.stack s H := ⟨hfr.trans w0.frames, w0.mod, w0.bs, w0.bsz, w0.funs, w0.frf, w0.hok, w0.bare⟩
  have len1 : 1 = ps.length := F.len _ _ _ _ h
  have bnd : BindsTo s fd ⟨[.ref a], []⟩ (ps.zip [.ref a]) := by
    have q := hb s [.ref a] I.kIn (by simpa using len1)
    simpa using q
  refine wpAny_call (codeAny_mono (F.run A X.stack s H ⟨[.ref a], []⟩ [.ref a] [.ref a] Q E hr w1 bnd (.cons rfl .nil) h) ?_)
  intro r s' z
  match r, z with
  | .error _, z => exact z.elim
  | .ok (.ret u), z => exact I.after z
def rStrOwn (C : Addr) (sp : Sp) : List V → Hp → VK → Prop := fun xs H Q => ∃ (a dx : Addr) (fs : List (Str × V)), xs = [.ref a] ∧ H a = some (.ins C dx fs) ∧ sp [.ref a] H (fun v H' => ∃ k : Str, v = .str k ∧ Q (.str k) H') E0
theorem call_strOwn (F : FnOk X.prog X.w X.K X.mg X.base CX0 n f fd ps sp) (hs : PySem.W.findIn X.K (.ref C) "__str__" = some (some (.ref f))) (hf : PySem.W.isFn X.K (.ref f) = true) (hb : Binds X.K fd ps []) (hr : Room (n + 2) X.A) :
    CallR X (.type "str") (rStrOwn C sp) := by
  rintro pins s σ H xs us Q I r ⟨a, dx, fs, rfl, ha, q⟩
  obtain ⟨u, rfl, rx⟩ := vals1 r
  cases rx
  obtain ⟨_, J1, _⟩ := ins_get I.hok ha
  obtain ⟨_, K1, _⟩ := J1.look
  have r2 : Room n X.A.in1.in1 := hr.in1.in1
  refine str_call ?_
  unfold PySem.Builtin.Str.strOf
  refine wpAny_bind (m := cRoomFor _ _) (wpAny_cRoomFor r2.units0 ?_)
  refine wpAny_bind (m := callSpecial? (.ref a) (Str.ofString "__str__") _) (special_own I.kIn K1 hs hf (thn (run_one F hb r2 rfl I q) ?_))
  rintro v s' ⟨z, H', I', rz, k, rfl, qk⟩
  obtain ⟨tk, rfl⟩ := rz
  exact wpAny_pure ⟨typeIs_str _ _ _, .str k, H', I', ⟨_, rfl⟩, qk⟩
end
end My

namespace My
open PySem PySem.Spec PyProof.Rows L2 PySem.Builtin
/-! ### repr of a pair of objects with an own __repr__ -/
theorem tup_depth {A : Around} {us : List Value} : (A.under (.builtin "tuple.__repr__" ⟨us, []⟩)).depth ≤ A.depth + 1 ∧ (A.under (.builtin "tuple.__repr__" ⟨us, []⟩)).handled = A.handled ∧ (A.under (.builtin "tuple.__repr__" ⟨us, []⟩)).frames = A.frames := by
  refine ⟨?_, ?_, ?_⟩
  · simp [Around.under, Code.weight, Code.isCreation, Code.isGuard, Code.isCaller, Code.frames, Code.isFrame]
    try (split <;> omega)
  · first | rfl | simp [Around.under]
  · first | rfl | simp [Around.under, Code.envs, pushEnvs]
theorem room_tup {n : Nat} {A : Around} {us : List Value} (r : Room (n + 1) A) : Room n (A.under (.builtin "tuple.__repr__" ⟨us, []⟩)) := by
  obtain ⟨d, h, _⟩ := @tup_depth A us
  refine ⟨h.trans r.hd, ?_, ?_⟩
  · have := r.dp; omega
  · have := r.un
    rw [units_under_tuple_repr]
    omega
section
variable {P : Program} {w : World} {A : Around} {E : Value → Shared → Prop} {s : Shared} {K : PySem.W.Frag} {a C f : Addr} {ox : Obj} {od : Option Obj}
/-- one of them, within its display -/
theorem repr_within {b : Nat} {R : Str → Shared → Prop} (hb : b ≤ sizeLine) (hu : A.units < cLine) (X : K.In s.heap) (I : PySem.W.InstAt s.heap a ox C od) (hs : PySem.W.findIn K (.ref C) "__repr__" = some (some (.ref f))) (hf : PySem.W.isFn K (.ref f) = true)
    (go : wpAny (model P w) A (call (.ref f) [.ref a]) (fun v t => ∃ z u, v = .str z u ∧ R z t) E s) : wpAny (model P w) A (pyReprUnder b (.ref a)) R E s := by
  refine wpAny_pyReprUnder_ref hb ?_
  unfold pyReprObjUnder pyReprObjBy
  refine wpAny_bind (wpAny_cRoomFor hu (wpAny_bind ?_))
  have sp : ∀ {B : Option Value → Shared → Prop}, B (some (.ref f)) s → wpAny (model P w) A (specialOf (.ref a) "__repr__") B E s := fun q => by
    unfold specialOf
    exact wpAny_bind (I.type.here ((PySem.W.looks_findIn X hs).here q))
  refine sp ?_
  show wpAny _ _ (if (some (Value.ref f)).isNone = true then _ else _) _ _ _
  rw [if_neg (by simp)]
  have last : wpAny (model P w) A (callSpecialIfBoundBy? (fun g first => match reprUnder? g, first with
      | some twin, [self] => call twin [self, rawInt b]
      | _, _ => call g (first ++ [])) (.ref a) "__repr__") (fun r t => ∃ z u, r = some (.str z u) ∧ R z t) E s := by
    have fin : wpAny (model P w) A (call (.ref f) ([.ref a] ++ []) >>= fun v => pure (some v)) (fun r t => ∃ z u, r = some (.str z u) ∧ R z t) E s :=
      wpAny_bind (wpAny_mono go (fun v t q => by
        obtain ⟨z, u, rfl, q⟩ := q
        exact wpAny_pure ⟨z, u, rfl, q⟩) fun _ _ q => q)
    simp only [callSpecialIfBoundBy?, bindSpecialIfBound?]
    refine wpAny_holding (wpAny_bind (wpAny_bind (sp ?_)))
    refine wpAny_bind (wpAny_askSetting (wpAny_ite ?_))
    have bd := PySem.W.bind_fn (M := model P w) X (.ref a) (beq_iff_eq.mp hf)
    split
    · exact wpAny_bind (bd.here (wpAny_pure (by exact fin)))
    · exact wpAny_tryCatch (wpAny_bind (bd.here (wpAny_pure (by exact fin))))
  refine wpAny_bind (wpAny_mono last (fun r t q => ?_) fun _ _ q => q)
  obtain ⟨z, u, rfl, q⟩ := q
  exact wpAny_bind (wpAny_isInstance (typeIs_str _ _ _) isSubtype_str_str (wpAny_pure ⟨z, u, rfl, q⟩))
end
section
variable {X : Cx} {C f : Addr} {fd : FuncData} {ps : List Str} {n : Nat} {sp : Sp}
def rRepr2 (C : Addr) (K : PySem.W.Frag) (sp : Sp) : List V → Hp → VK → Prop := fun xs H Q => ∃ (p a b dx dy : Addr) (fs gs : List (Str × V)) (y z : Str), xs = [.ref p] ∧ SqT K H p [.ref a, .ref b] ∧ H a = some (.ins C dx fs) ∧ H b = some (.ins C dy gs) ∧ y.length ≤ 10000 ∧ z.length ≤ 10000 ∧
  (∀ R : VK, R (.str y) H → sp [.ref a] H R E0) ∧ (∀ R : VK, R (.str z) H → sp [.ref b] H R E0) ∧ Q (.str (tupleText [y, z])) H
theorem call_repr2 (hA : X.A.guards = some []) (F : FnOk X.prog X.w X.K X.mg X.base CX0 n f fd ps sp) (hs : PySem.W.findIn X.K (.ref C) "__repr__" = some (some (.ref f))) (hf : PySem.W.isFn X.K (.ref f) = true) (hb : Binds X.K fd ps []) (hr : Room (n + 2) X.A) :
    CallR X (.builtin "repr") (rRepr2 C X.K sp) := by
  rintro pins s σ H xs us Q I r ⟨p, a, b, dx, dy, fs, gs, y, z, rfl, hp, ha, hb', ly, lz, pa, pb, q⟩
  obtain ⟨u, rfl, rx⟩ := vals1 r
  cases rx
  obtain ⟨its, rv, ⟨o, ho, hc, m, hd⟩, _⟩ := I.tuple hp
  obtain ⟨u1, u2, rfl, r1, r2⟩ := vals2 rv
  cases r1
  cases r2
  have ty : s.TypeIs (.ref p) "tuple" := ⟨o, ho, hc⟩
  have rA : Room (n + 1) X.A.in1 := hr.in1
  have rT : Room n (X.A.in1.under (.builtin "tuple.__repr__" ⟨[.ref p], []⟩)) := room_tup rA
  obtain ⟨_, _, fr⟩ := @tup_depth X.A.in1 [.ref p]
  have sl : sizeLine = 16777216 := rfl
  have one : ∀ (c dc : Addr) (hs' : List (Str × V)) (t : Str) (bs : Nat) (s' : Shared) (R : Str → Shared → Prop), H c = some (.ins C dc hs') → (∀ R : VK, R (.str t) H → sp [.ref c] H R E0) → bs ≤ sizeLine → Inv X pins σ H s' → (∀ s2, Inv X pins σ H s2 → R t s2) →
      wpAny (model X.prog X.w) (X.A.in1.under (.builtin "tuple.__repr__" ⟨[.ref p], []⟩)) (pyReprUnder bs (.ref c)) R X.xe s' := by
    intro c dc hs' t bs s' R hc' pc hbs I' k
    obtain ⟨_, J1, _⟩ := ins_get I'.hok hc'
    obtain ⟨_, K1, _⟩ := J1.look
    refine repr_within hbs rT.units0 I'.kIn K1 hs hf (thn (run_one F hb rT fr I' (pc (fun v H' => v = .str t ∧ H' = H) ⟨rfl, rfl⟩)) ?_)
    rintro v s2 ⟨x, H2, I2, rx, rfl, rfl⟩
    obtain ⟨tk, rfl⟩ := rx
    exact ⟨t, tk, rfl, k s2 I2⟩
  have tlen : (tupleText [y, z]).length ≤ 30000 := by
    show (("(" : Str) ++ (y ++ ", " ++ z) ++ ")").length ≤ 30000
    have e1 : ("(" : Str).length = 1 := rfl
    have e2 : (")" : Str).length = 1 := rfl
    have e3 : (", " : Str).length = 2 := rfl
    rw [Str.length_append, Str.length_append, Str.length_append, Str.length_append]
    omega
  refine call_repr_slot (by have := rA.un; show X.A.in1.units < _; omega) ty PySem.F.slot_tuple_repr ?_
  refine wpAny_call (codeAny_call_builtin_own (Code.quiet_builtin _ (by decide +kernel)) PySem.F.entry_tuple_repr (PySem.F.slot_tuple_repr.check _ _ _ _ _ _ _ _ ty (PySem.F.args_tuple_repr_1 _) ?_))
  show wpOwn _ _ _ (tupleReprAt 0 ⟨[.ref p], []⟩) _ _ s
  rw [tuple_repr_tree, tupleReprUnderWay_eq]
  refine wpOwn_bind (wpOwn_stackTailAny (g := []) hA (tupGuardF_off _) (tupGuardF_pos _) ?_)
  rw [show (([] : List Code).any fun c => tupGuardF (.ref p) (c, default)) = false from rfl]
  refine wpOwn_of_wpAny ?_
  show wpAny _ _ (tupleReprRest 0 (.ref p)) _ _ s
  unfold tupleReprRest Builtin.Tuple.tupleItemsOf
  refine wpAny_bind (wpAny_bind (wpAny_seqItems ho hd (wpAny_pure ?_)))
  rw [← Array.forIn_toList]
  have tp : (tupleText [y, z]) = ("(" : Str) ++ (y ++ ", " ++ z) ++ ")" := rfl
  have fold : ∀ (acc : Array Str) (m0 : Nat) (R : (Array Str × Nat) → Shared → Prop), m0 ≤ 10 → (∀ s2, Inv X pins σ H s2 → R ⟨(acc.push y).push z, m0 + (y.length + 2) + (z.length + 2)⟩ s2) →
      wpAny (model X.prog X.w) (X.A.in1.under (.builtin "tuple.__repr__" ⟨[.ref p], []⟩)) (forIn [Value.ref a, Value.ref b] (⟨acc, m0⟩ : (Array Str × Nat)) tupBody) R X.xe s := by
    intro acc m0 R hm k
    rw [List.forIn_cons]
    refine wpAny_bind (wpAny_bind (one a dx fs y _ s _ ha pa (by omega) I fun s1 I1 => wpAny_pure ?_))
    show wpAny _ _ (forIn [Value.ref b] _ tupBody) _ _ s1
    rw [List.forIn_cons]
    refine wpAny_bind (wpAny_bind (one b dy gs z _ s1 _ hb' pb (by omega) I1 fun s2 I2 => wpAny_pure ?_))
    show wpAny _ _ (forIn ([] : List Value) _ tupBody) _ _ s2
    rw [List.forIn_nil]
    exact wpAny_pure (k s2 I2)
  refine wpAny_bind (fold _ _ _ (by omega) fun s2 I2 => ?_)
  refine wpAny_bind (wpAny_mkStr (wpAny_pure ?_) ?_)
  · exact ⟨_, _, rfl, .str (tupleText [y, z]), H, I2.tok _, ⟨_, rfl⟩, q⟩
  · exact Nat.le_trans tlen (by decide)
end
end My

namespace My
open PySem L2 TL NumText
/-! ### texts of whole numbers and of Numbers -/
def TI (i : Int) : Str := Str.ofString (toString i)
def signL (i : Int) : List Nat := if i < 0 then 45 :: numL i.natAbs else numL i.natAbs
theorem tl_TI (i : Int) : tl (TI i) = signL i := by
  unfold TI signL
  by_cases h : i < 0
  · rw [if_pos h]
    obtain ⟨m, rfl⟩ := Int.eq_negSucc_of_lt_zero h
    have e : toString (Int.negSucc m) = "-" ++ toString (((m + 1 : Nat)) : Int) := rfl
    rw [e, tl_ofString, String.toList_append, List.map_append, ← tl_ofString (toString (((m + 1 : Nat)) : Int)), tl_num]
    rfl
  · rw [if_neg h]
    obtain ⟨n, rfl⟩ := Int.eq_ofNat_of_zero_le (show 0 ≤ i by omega)
    exact tl_num n
theorem signL_inj {i j : Int} (h : signL i = signL j) : i = j := by
  unfold signL at h
  have f : ∀ n, (45 : Nat) ∉ numL n := fun n => numL_free (by decide)
  by_cases a : i < 0 <;> by_cases b : j < 0
  · rw [if_pos a, if_pos b] at h
    have := numL_inj (List.cons.inj h).2
    omega
  · rw [if_pos a, if_neg b] at h
    exact absurd (h ▸ List.mem_cons_self ..) (f _)
  · rw [if_neg a, if_pos b] at h
    exact absurd (h ▸ List.mem_cons_self ..) (f _)
  · rw [if_neg a, if_neg b] at h
    have := numL_inj h
    omega
theorem TI_inj {i j : Int} (h : TI i = TI j) : i = j := signL_inj (by rw [← tl_TI, ← tl_TI, h])
theorem free_signL {s : Nat} (h : s ≠ 45) (h2 : s < 48 ∨ 57 < s) (i : Int) : s ∉ signL i := by
  unfold signL
  split
  · intro z
    rcases List.mem_cons.mp z with z | z
    · exact h z
    · exact numL_free h2 z
  · exact numL_free h2
theorem signL_len {i : Int} {k : Nat} (hk : 0 < k) (h : i.natAbs < 10 ^ k) : (signL i).length ≤ k + (if i < 0 then 1 else 0) := by
  have := numL_len hk h
  unfold signL
  split
  · rw [List.length_cons]; omega
  · omega
theorem signL_ne (i : Int) : signL i ≠ [] := by
  unfold signL
  split
  · exact List.cons_ne_nil _ _
  · exact numL_ne _
theorem int_TI {i : Int} (h : (TI i).length ≤ 4300) : intText? (TI i) = some i := by
  by_cases z : i < 0
  · have e : (TI i).cps.toList = 45 :: numL i.natAbs := by
      have := tl_TI i
      unfold signL at this
      rw [if_pos z] at this
      exact this
    have := intText_neg e (numL_digits _) (numL_ne _) h
    rw [this, numL_val]
    congr 1
    omega
  · obtain ⟨n, rfl⟩ := Int.eq_ofNat_of_zero_le (show 0 ≤ i by omega)
    have l : (numL n).length ≤ 4300 := by
      have := len_tl (TI (n : Int))
      rw [tl_TI] at this
      unfold signL at this
      rw [if_neg z] at this
      rw [this] at h
      exact h
    exact int_num l
/-- the text of a Number -/
def NText (x : Rat) : Str := if x.den = 1 then TI x.num else TI x.num ++ "/" ++ TI (x.den : Int)
theorem nat_signL (n : Nat) : signL (n : Int) = numL n := by
  unfold signL
  rw [if_neg (by omega)]
  rfl
theorem tl_NText (x : Rat) : tl (NText x) = if x.den = 1 then signL x.num else signL x.num ++ 47 :: numL x.den := by
  unfold NText
  split
  · exact tl_TI _
  · have e : tl ("/" : Str) = [47] := rfl
    rw [tl_append, tl_append, tl_TI, tl_TI, nat_signL, e]
    simp
theorem part_none {x : Rat} (h : x.den = 1) : Txt.partition (NText x) "/" = (TI x.num, Str.empty, Str.empty) := by
  have e : NText x = TI x.num := if_pos h
  rw [e]
  exact partition_none (s := 47) (S := []) rfl (by rw [tl_TI]; exact free_signL (by decide) (by decide) _)
theorem part_some {x : Rat} (h : x.den ≠ 1) : Txt.partition (NText x) "/" = (TI x.num, ("/" : Str), TI (x.den : Int)) := by
  have e : NText x = TI x.num ++ "/" ++ TI (x.den : Int) := if_neg h
  rw [e]
  exact partition_app (s := 47) (S := []) rfl (by rw [tl_TI]; exact free_signL (by decide) (by decide) _)
theorem minus_off (i : Int) : tl (Txt.removeprefix (TI i) "-") = numL i.natAbs := by
  rw [PySem.StrLaws.removeprefix_eq]
  have hx : (TI i).cps.toList = signL i := tl_TI i
  have ll : (TI i).length = (signL i).length := by rw [len_tl, tl_TI]
  have hy : ("-" : Str).cps.toList = [45] := rfl
  have y1 : ("-" : Str).length = 1 := rfl
  rw [PySem.StrLaws.subAt_eq, hx, hy, y1, ll, List.drop_zero]
  unfold signL
  by_cases z : i < 0
  · rw [if_pos z]
    have e : ((45 :: numL i.natAbs).take 1 == [45]) = true := rfl
    rw [e, if_pos (by rw [Bool.and_true]; exact decide_eq_true (by rw [List.length_cons]; omega))]
    show (45 :: numL i.natAbs).tail.take _ = _
    rw [List.tail_cons, List.length_cons]
    exact List.take_of_length_le (by omega)
  · rw [if_neg z]
    have f : (45 : Nat) ∉ numL i.natAbs := numL_free (by decide)
    have e : ((numL i.natAbs).take 1 == [45]) = false := by
      generalize numL i.natAbs = l at *
      cases l with
      | nil => rfl
      | cons c r =>
        have c0 : c ≠ 45 := fun q => f (by rw [q]; exact List.mem_cons_self ..)
        show ((c :: List.take 0 r) == [45]) = false
        rw [List.take_zero]
        simpa using c0
    rw [e, Bool.and_false, if_neg (by decide)]
    have := tl_TI i
    unfold signL at this
    rw [if_neg z] at this
    exact this
theorem digit_is : ∀ c : Nat, 48 ≤ c → c ≤ 57 → Unicode.isDigit c = true ∧ decide (c < 128) = true := by
  intro c h1 h2
  have h : c = 48 ∨ c = 49 ∨ c = 50 ∨ c = 51 ∨ c = 52 ∨ c = 53 ∨ c = 54 ∨ c = 55 ∨ c = 56 ∨ c = 57 := by omega
  rcases h with rfl | rfl | rfl | rfl | rfl | rfl | rfl | rfl | rfl | rfl <;> decide +kernel
theorem all_list {x : Str} {p : Nat → Bool} : x.cps.all p = (tl x).all p := by
  show x.cps.all p = x.cps.toList.all p
  exact (Array.all_toList ..).symm
theorem ascii_off (i : Int) : Txt.isascii (Txt.removeprefix (TI i) "-") = true := by
  unfold Txt.isascii
  rw [all_list, minus_off, List.all_eq_true]
  intro c hc
  have := numL_digits _ c hc
  exact (digit_is c this.1 this.2).2
theorem digits_off (i : Int) : Txt.isdigit (Txt.removeprefix (TI i) "-") = true := by
  unfold Txt.isdigit
  rw [all_list, minus_off, len_tl, minus_off, Bool.and_eq_true, List.all_eq_true]
  constructor
  · have := numL_ne i.natAbs
    generalize numL i.natAbs = l at *
    cases l with
    | nil => exact absurd rfl this
    | cons _ _ => exact decide_eq_true (by rw [List.length_cons]; omega)
  · intro c hc
    have := numL_digits _ c hc
    exact (digit_is c this.1 this.2).1
theorem TI_len (i : Int) : (TI i).length = (signL i).length := by rw [len_tl, tl_TI]
theorem NText_len (x : Rat) : (NText x).length = if x.den = 1 then (signL x.num).length else (signL x.num).length + 1 + (numL x.den).length := by
  rw [len_tl, tl_NText]
  split
  · rfl
  · rw [List.length_append, List.length_cons]; omega
end My

namespace My
open PySem L2
def top (i : Nat) : Stmt := PySem.Challenge.pw_figuretexts_k07_neighbours_told.main.body.getD i (.Pass ⟨0, 0, 0, 0⟩)
abbrev s_Number_init : Stmt := inClass (top 5) 0
theorem sc_Number_init : FnScope ["self", "top", "bottom", "common"] ["self", "top", "bottom"] (defScope s_Number_init) := ⟨rfl, rfl, rfl, by decide +kernel, rfl, by decide +kernel, by decide +kernel⟩
abbrev s_Number_eq : Stmt := inClass (top 5) 1
theorem sc_Number_eq : FnScope ["self", "other"] ["self", "other"] (defScope s_Number_eq) := ⟨rfl, rfl, rfl, by decide +kernel, rfl, by decide +kernel, by decide +kernel⟩
abbrev s_Number_repr : Stmt := inClass (top 5) 3
theorem sc_Number_repr : FnScope ["self"] ["self"] (defScope s_Number_repr) := ⟨rfl, rfl, rfl, by decide +kernel, rfl, by decide +kernel, by decide +kernel⟩
abbrev s_Number_less : Stmt := inClass (top 5) 5
theorem sc_Number_less : FnScope ["self", "other"] ["self", "other"] (defScope s_Number_less) := ⟨rfl, rfl, rfl, by decide +kernel, rfl, by decide +kernel, by decide +kernel⟩
abbrev s_Number_times : Stmt := inClass (top 5) 6
theorem sc_Number_times : FnScope ["self", "other"] ["self", "other"] (defScope s_Number_times) := ⟨rfl, rfl, rfl, by decide +kernel, rfl, by decide +kernel, by decide +kernel⟩
abbrev s_Number_over : Stmt := inClass (top 5) 7
theorem sc_Number_over : FnScope ["self", "other"] ["self", "other"] (defScope s_Number_over) := ⟨rfl, rfl, rfl, by decide +kernel, rfl, by decide +kernel, by decide +kernel⟩
abbrev s_Number_below : Stmt := inClass (top 5) 8
theorem sc_Number_below : FnScope ["self", "other"] ["self", "other"] (defScope s_Number_below) := ⟨rfl, rfl, rfl, by decide +kernel, rfl, by decide +kernel, by decide +kernel⟩
abbrev s_Number_floor : Stmt := inClass (top 5) 10
theorem sc_Number_floor : FnScope ["self"] ["self"] (defScope s_Number_floor) := ⟨rfl, rfl, rfl, by decide +kernel, rfl, by decide +kernel, by decide +kernel⟩
abbrev s_neighbours : Stmt := top 7
theorem sc_neighbours : FnScope ["number", "step", "low", "high", "_"] ["number", "step"] (defScope s_neighbours) := ⟨rfl, rfl, rfl, by decide +kernel, rfl, by decide +kernel, by decide +kernel⟩
abbrev s_place_of : Stmt := top 8
theorem sc_place_of : FnScope ["number", "step", "steps", "low", "part", "high"] ["number", "step"] (defScope s_place_of) := ⟨rfl, rfl, rfl, by decide +kernel, rfl, by decide +kernel, by decide +kernel⟩
abbrev s_l_deck : Stmt := top 10
theorem sc_l_deck : FnScope ["_law_script", "_law_cells", "_law_seed", "_law_cell"] ["_law_script"] (defScope s_l_deck) := ⟨rfl, rfl, rfl, by decide +kernel, rfl, by decide +kernel, by decide +kernel⟩
abbrev s_l_draw : Stmt := top 11
theorem sc_l_draw : FnScope ["_law_deck_here", "_law_ways", "_law_cell", "_law_number"] ["_law_deck_here", "_law_ways"] (defScope s_l_draw) := ⟨rfl, rfl, rfl, by decide +kernel, rfl, by decide +kernel, by decide +kernel⟩
abbrev s_l_grain : Stmt := top 12
theorem sc_l_grain : FnScope ["_law_deck_here", "_law_tens", "_law_some"] ["_law_deck_here"] (defScope s_l_grain) := ⟨rfl, rfl, rfl, by decide +kernel, rfl, by decide +kernel, by decide +kernel⟩
abbrev s_l_near : Stmt := top 13
theorem sc_l_near : FnScope ["_law_deck_here", "_law_grain_here", "_law_some", "_law_count", "_law_pieces", "_law_half", "_law_rest"] ["_law_deck_here", "_law_grain_here"] (defScope s_l_near) := ⟨rfl, rfl, rfl, by decide +kernel, rfl, by decide +kernel, by decide +kernel⟩
abbrev s_l_steps : Stmt := top 14
theorem sc_l_steps : FnScope ["_law_number", "_law_grain_here", "_law_top", "_law_bottom", "_law_low"] ["_law_number", "_law_grain_here"] (defScope s_l_steps) := ⟨rfl, rfl, rfl, by decide +kernel, rfl, by decide +kernel, by decide +kernel⟩
abbrev s_l_as : Stmt := top 15
theorem sc_l_as : FnScope ["_law_top", "_law_bottom", "_law_one", "_law_other"] ["_law_top", "_law_bottom"] (defScope s_l_as) := ⟨rfl, rfl, rfl, by decide +kernel, rfl, by decide +kernel, by decide +kernel⟩
abbrev s_l_is : Stmt := top 16
theorem sc_l_is : FnScope ["_law_found", "_law_top", "_law_bottom"] ["_law_found", "_law_top", "_law_bottom"] (defScope s_l_is) := ⟨rfl, rfl, rfl, by decide +kernel, rfl, by decide +kernel, by decide +kernel⟩
abbrev s_l_right : Stmt := top 17
theorem sc_l_right : FnScope ["_law_number", "_law_grain_here", "_law_by", "_law_low", "_law_rest", "_law_whole", "_law_high", "_law_here", "_law_unit_step", "_law_kept", "_law_found"] ["_law_number", "_law_grain_here", "_law_by"] (defScope s_l_right) := ⟨rfl, rfl, rfl, by decide +kernel, rfl, by decide +kernel, by decide +kernel⟩
abbrev s_law : Stmt := top 18
theorem sc_law : FnScope ["_law_script", "_law_deck_here", "_law_turn", "_law_grain_here"] ["_law_script"] (defScope s_law) := ⟨rfl, rfl, rfl, by decide +kernel, rfl, by decide +kernel, by decide +kernel⟩
structure Txt (w : World) (K : PySem.W.Frag) (mg : Str → Option Value) where
  C_Number : Addr
  m_Number : mg "Number" = some (.ref C_Number)
  c_Number : Cls K C_Number
  n_Number_top : NoAttr K C_Number "top"
  n_Number_bottom : NoAttr K C_Number "bottom"
  ty_Number_c : PySem.W.findIn K (.ref C_Number) "__class__" = some (some (.builtin "object.__class__"))
  ty_Number_g : PySem.W.specialIn K (.builtin "object.__class__") "__get__" = some (some (.builtin "getset_descriptor.__get__"))
  ty_Number_t : PySem.W.takesIn K (.builtin "object.__class__") = some true
  ty_Number_m : PySem.W.mroIn K C_Number (.type "object") = some true
  ty_Number_k : PySem.W.kitOne K (.ref C_Number) (.ref C_Number) = some true
  ne_Number : PySem.W.findIn K (.ref C_Number) "__ne__" = some (some (.builtin "object.__ne__"))
  f_Number_init : Addr
  fd_Number_init : FuncData
  F_Number_init : FunD K "__init__" "Number.__init__" (defArgs s_Number_init) (defBody s_Number_init) (defScope s_Number_init) [V.int 1] [] f_Number_init fd_Number_init
  mk_Number : Mk K C_Number f_Number_init
  b_Number_init2 : Binds K fd_Number_init ["self", "top", "bottom"] []
  ds_Number_init1 : List Value
  d_Number_init1 : Vals [V.int 1] ds_Number_init1
  b_Number_init1 : Binds K fd_Number_init ["self", "top", "bottom"] ds_Number_init1
  f_Number_eq : Addr
  fd_Number_eq : FuncData
  F_Number_eq : Fun K "__eq__" "Number.__eq__" s_Number_eq f_Number_eq fd_Number_eq
  me_Number_eq : Meth K C_Number "__eq__" f_Number_eq
  b_Number_eq : Binds K fd_Number_eq ["self", "other"] []
  f_Number_repr : Addr
  fd_Number_repr : FuncData
  F_Number_repr : Fun K "__repr__" "Number.__repr__" s_Number_repr f_Number_repr fd_Number_repr
  me_Number_repr : Meth K C_Number "__repr__" f_Number_repr
  b_Number_repr : Binds K fd_Number_repr ["self"] []
  f_Number_less : Addr
  fd_Number_less : FuncData
  F_Number_less : Fun K "less" "Number.less" s_Number_less f_Number_less fd_Number_less
  me_Number_less : Meth K C_Number "less" f_Number_less
  b_Number_less : Binds K fd_Number_less ["self", "other"] []
  f_Number_times : Addr
  fd_Number_times : FuncData
  F_Number_times : Fun K "times" "Number.times" s_Number_times f_Number_times fd_Number_times
  me_Number_times : Meth K C_Number "times" f_Number_times
  b_Number_times : Binds K fd_Number_times ["self", "other"] []
  f_Number_over : Addr
  fd_Number_over : FuncData
  F_Number_over : Fun K "over" "Number.over" s_Number_over f_Number_over fd_Number_over
  me_Number_over : Meth K C_Number "over" f_Number_over
  b_Number_over : Binds K fd_Number_over ["self", "other"] []
  f_Number_below : Addr
  fd_Number_below : FuncData
  F_Number_below : Fun K "below" "Number.below" s_Number_below f_Number_below fd_Number_below
  me_Number_below : Meth K C_Number "below" f_Number_below
  b_Number_below : Binds K fd_Number_below ["self", "other"] []
  f_Number_floor : Addr
  fd_Number_floor : FuncData
  F_Number_floor : Fun K "floor" "Number.floor" s_Number_floor f_Number_floor fd_Number_floor
  me_Number_floor : Meth K C_Number "floor" f_Number_floor
  b_Number_floor : Binds K fd_Number_floor ["self"] []
  f_neighbours : Addr
  fd_neighbours : FuncData
  F_neighbours : Fun K "neighbours" "neighbours" s_neighbours f_neighbours fd_neighbours
  m_neighbours : mg "neighbours" = some (.ref f_neighbours)
  b_neighbours : Binds K fd_neighbours ["number", "step"] []
  f_place_of : Addr
  fd_place_of : FuncData
  F_place_of : Fun K "place_of" "place_of" s_place_of f_place_of fd_place_of
  m_place_of : mg "place_of" = some (.ref f_place_of)
  b_place_of : Binds K fd_place_of ["number", "step"] []
  f_l_deck : Addr
  fd_l_deck : FuncData
  F_l_deck : Fun K "_law_deck" "_law_deck" s_l_deck f_l_deck fd_l_deck
  m_l_deck : mg "_law_deck" = some (.ref f_l_deck)
  b_l_deck : Binds K fd_l_deck ["_law_script"] []
  f_l_draw : Addr
  fd_l_draw : FuncData
  F_l_draw : Fun K "_law_draw" "_law_draw" s_l_draw f_l_draw fd_l_draw
  m_l_draw : mg "_law_draw" = some (.ref f_l_draw)
  b_l_draw : Binds K fd_l_draw ["_law_deck_here", "_law_ways"] []
  f_l_grain : Addr
  fd_l_grain : FuncData
  F_l_grain : Fun K "_law_grain" "_law_grain" s_l_grain f_l_grain fd_l_grain
  m_l_grain : mg "_law_grain" = some (.ref f_l_grain)
  b_l_grain : Binds K fd_l_grain ["_law_deck_here"] []
  f_l_near : Addr
  fd_l_near : FuncData
  F_l_near : Fun K "_law_near" "_law_near" s_l_near f_l_near fd_l_near
  m_l_near : mg "_law_near" = some (.ref f_l_near)
  b_l_near : Binds K fd_l_near ["_law_deck_here", "_law_grain_here"] []
  f_l_steps : Addr
  fd_l_steps : FuncData
  F_l_steps : Fun K "_law_steps" "_law_steps" s_l_steps f_l_steps fd_l_steps
  m_l_steps : mg "_law_steps" = some (.ref f_l_steps)
  b_l_steps : Binds K fd_l_steps ["_law_number", "_law_grain_here"] []
  f_l_as : Addr
  fd_l_as : FuncData
  F_l_as : Fun K "_law_as" "_law_as" s_l_as f_l_as fd_l_as
  m_l_as : mg "_law_as" = some (.ref f_l_as)
  b_l_as : Binds K fd_l_as ["_law_top", "_law_bottom"] []
  f_l_is : Addr
  fd_l_is : FuncData
  F_l_is : Fun K "_law_is" "_law_is" s_l_is f_l_is fd_l_is
  m_l_is : mg "_law_is" = some (.ref f_l_is)
  b_l_is : Binds K fd_l_is ["_law_found", "_law_top", "_law_bottom"] []
  f_l_right : Addr
  fd_l_right : FuncData
  F_l_right : Fun K "_law_right" "_law_right" s_l_right f_l_right fd_l_right
  m_l_right : mg "_law_right" = some (.ref f_l_right)
  b_l_right : Binds K fd_l_right ["_law_number", "_law_grain_here", "_law_by"] []
  f_law : Addr
  fd_law : FuncData
  F_law : Fun K "law" "law" s_law f_law fd_law
  m_law : mg "law" = some (.ref f_law)
  b_law : Binds K fd_law ["_law_script"] []
  m_gcd : mg "gcd" = some (.builtin "math.gcd")
  n_range : mg "range" = none
  n_isinstance : mg "isinstance" = none
  n_str : mg "str" = none
  n_int : mg "int" = none
  n_list : mg "list" = none
  n_len : mg "len" = none
  n_abs : mg "abs" = none
  n_max : mg "max" = none
  n_repr : mg "repr" = none
  n_tuple : mg "tuple" = none

section
variable {P : Program} {w : World} {K : PySem.W.Frag} {mg : Str → Option Value} {base : Heap}
/-! ### Number -/
def nf (q : Rat) : List (Str × V) := [("top", .int q.num), ("bottom", .int (q.den : Int))]
theorem tb_ : ¬ (("top" : Str) = "bottom") := by decide +kernel
theorem bt_ : ¬ (("bottom" : Str) = "top") := by decide +kernel
theorem nf_put (a b : Int) : putF "bottom" (.int b) (putF "top" (.int a) []) = ([("top", V.int a), ("bottom", V.int b)] : List (Str × V)) := by
  show (if ("top" : Str) = "bottom" then [(("top" : Str), V.int b)] else (("top" : Str), V.int a) :: putF "bottom" (V.int b) []) = ([("top", V.int a), ("bottom", V.int b)] : List (Str × V))
  rw [if_neg tb_]
  all_goals rfl
theorem nf_top (q : Rat) : (nf q).lookup ("top" : Str) = some (.int q.num) := by
  have e : (("top" : Str) == "top") = true := by decide +kernel
  unfold nf
  simp only [List.lookup, e]
theorem nf_bottom (q : Rat) : (nf q).lookup ("bottom" : Str) = some (.int (q.den : Int)) := by
  have e : (("bottom" : Str) == "top") = false := by decide +kernel
  have e' : (("bottom" : Str) == "bottom") = true := by decide +kernel
  unfold nf
  simp only [List.lookup, e, e']
theorem nf_no (q : Rat) {m : Str} (h1 : (m == "top") = false) (h2 : (m == "bottom") = false) : (nf q).lookup m = none := by
  unfold nf
  simp only [List.lookup, h1, h2]
/-- the Number q stands at p -/
def NumAt (C : Addr) (H : Hp) (p : Addr) (q : Rat) : Prop := ∃ dx, H p = some (.ins C dx (nf q))
theorem NumAt.same {C : Addr} {H H' : Hp} {p : Addr} {q : Rat} (s : Same H H') (h : NumAt C H p q) : NumAt C H' p q := let ⟨dx, e⟩ := h; ⟨dx, s _ _ e⟩

def spInit (C : Addr) : Sp := fun vs H Q _ => ∃ (p dx : Addr) (t b : Int), vs = [.ref p, .int t, .int b] ∧ H p = some (.ins C dx []) ∧ b ≠ 0 ∧ b.natAbs < 2 ^ 9000 ∧ Q .non (upd H p (.ins C dx (nf (Rat.divInt t b))))
theorem ok_Number_init (T : Txt w K mg) : FnOk P w K mg base CX0 1 T.f_Number_init T.fd_Number_init ["self", "top", "bottom"] (spInit T.C_Number) := by
  refine T.F_Number_init.ok sc_Number_init (fun vs H Q E h => ?_) (fun cdv A outer s H vs Q E hr h => ?_)
  · obtain ⟨p, dx, t, b, rfl, _⟩ := h
    rfl
  · obtain ⟨p, dx, t, b, rfl, hp, hb, hl, k⟩ := h
    refine ⟨_, (pss_cons (ps_if (pt_cmpR op_eq (pv 2) pe_int (nomark _))
  (pss_one ps_never)
  pss_nil)
 (pss_cons (ps_set (i := 3) sc_Number_init.nd rfl (Or.inl rfl) (pe_callBfun cr_gcd (by rfl) T.m_gcd (pa_cons (pv 1) (pa_cons (pv 2) pa_nil))))
 (pss_cons (ps_if (pt_cmpR op_lt (pv 2) pe_int (nomark _))
  (pss_one (ps_set (i := 3) sc_Number_init.nd rfl (Or.inl rfl) (pe_un un_neg (pv 3))))
  pss_nil)
 (pss_cons (ps_fld (pv 0) (pe_op op_fdivA (pv 1) (pv 3)) rfl)
 (pss_one (ps_fld (pv 0) (pe_op op_fdivA (pv 2) (pv 3)) rfl)))))), ?_⟩
    walk_at "rd"
    refine r_iteF (decide_eq_false hb) ?_
    walk_at "rd"
    refine ⟨_, _, rfl, ?_⟩
    have fin : ∀ c : Int, c = cdiv t b → sFld K (tVar 0) (tOp (rI CDivA fun i j => .int (i.fdiv j)) (tVar 1) (tVar 3)) "top" ⟨sFld K (tVar 0) (tOp (rI CDivA fun i j => .int (i.fdiv j)) (tVar 2) (tVar 3)) "bottom" ⟨fun _ H' => Q .non H', Q, fun _ _ => False, fun _ _ => False⟩, Q, fun _ _ => False, fun _ _ => False⟩ [some (.ref p), some (.int t), some (.int b), some (.int c)] H := by
      rintro c rfl
      have hg := gcd_pos (t := t) hb
      have hc : CDivA t (cdiv t b) ∧ CDivA b (cdiv t b) := by
        have n0 : cdiv t b ≠ 0 := by unfold cdiv; split <;> omega
        have nb : (cdiv t b).natAbs < 2 ^ 9000 := by
          have le : Nat.gcd t.natAbs b.natAbs ≤ b.natAbs := Nat.le_of_dvd (by omega) (Nat.gcd_dvd_right _ _)
          have e : (cdiv t b).natAbs = Nat.gcd t.natAbs b.natAbs := by unfold cdiv; split <;> omega
          rw [e]
          exact Nat.lt_of_le_of_lt le hl
        exact ⟨cdivA n0 nb (by decide) (Nat.le_refl _), cdivA n0 nb (by decide) (Nat.le_refl _)⟩
      walk_at "rd"
      refine r_I hc.1 ?_
      walk_at "rd"
      refine ⟨p, T.C_Number, dx, [], rfl, hp, T.c_Number, T.n_Number_top, (by show 0 < 1000; decide), ?_⟩
      walk_at "rd"
      refine r_I hc.2 ?_
      walk_at "rd"
      refine ⟨p, T.C_Number, dx, _, rfl, upd_same, T.c_Number, T.n_Number_bottom, (by show 1 < 1000; decide), ?_⟩
      show Q .non (upd (upd H p _) p (.ins T.C_Number dx (putF "bottom" _ (putF "top" _ []))))
      rw [upd_upd, nf_put, num_of hb, den_of hb]
      exact k
    walk_at "rd"
    refine r_ite (fun hn => ?_) (fun hn => ?_)
    · iterate 5 walk_at "rd1"
      refine fin _ ?_
      unfold cdiv
      rw [if_pos (of_decide_eq_true hn)]
    · iterate 1 walk_at "rd1"
      refine fin _ ?_
      unfold cdiv
      rw [if_neg (of_decide_eq_false hn)]
end
end My
local macro_rules | `(tactic| walk_at "fld") => `(tactic| refine My.r_fld (by assumption) (by assumption) (by assumption) (by first | exact My.nf_top _ | exact My.nf_bottom _) ?_)
local macro_rules | `(tactic| walk_at "rdf") => `(tactic| (repeat (first | walk_at "rd1" | walk_at "fld")))


namespace My
open PySem L2
section
variable {P : Program} {w : World} {K : PySem.W.Frag} {mg : Str → Option Value} {base : Heap}
/-- a Number made at once -/
theorem mk_num {C : Addr} {H : Hp} {t b : Int} {R : Addr → Hp → Prop} {E : XK} (hb : b ≠ 0) (hl : b.natAbs < 2 ^ 9000) (q : ∀ (p : Addr) (H' : Hp), Same H H' → H p = none → NumAt C H' p (Rat.divInt t b) → R p H') :
    ∀ x dx, H x = none → H dx = none → dx ≠ x → spInit C (.ref x :: ([V.int t, V.int b] ++ [])) (upd (upd H dx (.own x)) x (.ins C dx [])) (fun v H2 => v = .non ∧ R x H2) E := by
  intro x dx nx ndx ne
  refine ⟨x, dx, t, b, rfl, upd_same, hb, hl, rfl, q x _ (fun y o e => ?_) nx ⟨dx, upd_same⟩⟩
  rw [upd_ne (ne_of_none e nx), upd_ne (ne_of_none e nx), upd_ne (ne_of_none e ndx)]
  exact e
theorem mk_num1 {C : Addr} {H : Hp} {t : Int} {R : Addr → Hp → Prop} {E : XK} (q : ∀ (p : Addr) (H' : Hp), Same H H' → H p = none → NumAt C H' p (t : Rat) → R p H') :
    ∀ x dx, H x = none → H dx = none → dx ≠ x → spInit C (.ref x :: ([V.int t] ++ [V.int 1])) (upd (upd H dx (.own x)) x (.ins C dx [])) (fun v H2 => v = .non ∧ R x H2) E :=
  mk_num (by decide) (Nat.lt_of_lt_of_le (by decide : Int.natAbs 1 < 2 ^ 1) (Nat.pow_le_pow_right (by decide) (by decide))) fun p H' s n h => q p H' s n (divInt_one t ▸ h)
/-- two Numbers in, one out -/
def spBin (C : Addr) (f : Rat → Rat → Rat) (ok : Rat → Rat → Prop) : Sp := fun vs H Q _ => ∃ (p q : Addr) (x y : Rat), vs = [.ref p, .ref q] ∧ NumAt C H p x ∧ NumAt C H q y ∧ Bd 4000 x ∧ Bd 4000 y ∧ ok x y ∧
  ∀ (r : Addr) (H' : Hp), Same H H' → H r = none → NumAt C H' r (f x y) → Q (.ref r) H'
theorem bd_den {n : Nat} {x : Rat} (h : Bd n x) : ((x.den : Nat) : Int).natAbs < 2 ^ n := by have := h.2; omega
theorem dd_ne (x y : Rat) : (x.den : Int) * (y.den : Int) ≠ 0 := Int.mul_ne_zero (den_ne x) (den_ne y)
theorem dd_lt {x y : Rat} (hx : Bd 4000 x) (hy : Bd 4000 y) : ((x.den : Int) * (y.den : Int)).natAbs < 2 ^ 9000 := natAbs_mul_lt (bd_den hx) (bd_den hy) (by decide)
theorem cm {i j : Int} (hi : i.natAbs < 2 ^ 4000) (hj : j.natAbs < 2 ^ 4000) : CMulW i j := wide_mul hi hj (by decide) (by decide) (by decide)
end
end My

namespace My
open PySem L2
section
variable {P : Program} {w : World} {K : PySem.W.Frag} {mg : Str → Option Value} {base : Heap}
theorem ok_Number_less (T : Txt w K mg) : FnOk P w K mg base CX0 3 T.f_Number_less T.fd_Number_less ["self", "other"] (spBin T.C_Number (fun x y => x - y) fun _ _ => True) := by
  refine T.F_Number_less.ok sc_Number_less (fun vs H Q E h => ?_) (fun cdv A outer s H vs Q E hr h => ?_)
  · obtain ⟨p, q, x, y, rfl, _⟩ := h
    rfl
  · obtain ⟨p, q, x, y, rfl, ⟨dx, hp⟩, ⟨dy, hq⟩, bx, by', _, k⟩ := h
    have cN := T.c_Number
    have nT := T.n_Number_top
    have nB := T.n_Number_bottom
    refine ⟨_, (pss_one (ps_ret (pe_make T.mk_Number (ok_Number_init T) (hr.mono (by decide)) (by rfl) T.m_Number T.b_Number_init2 .nil pass0 (pa_cons (pe_op op_sub (pe_op op_mulW (pe_fld (pv 0) rfl) (pe_fld (pv 1) rfl)) (pe_op op_mulW (pe_fld (pv 1) rfl) (pe_fld (pv 0) rfl))) (pa_cons (pe_op op_mulW (pe_fld (pv 0) rfl) (pe_fld (pv 1) rfl)) pa_nil))))), ?_⟩
    walk_at "rdf"
    refine r_I (cm bx.1 (bd_den by')) ?_
    walk_at "rdf"
    refine r_I (cm by'.1 (bd_den bx)) ?_
    walk_at "rdf"
    refine r_I (cm (bd_den bx) (bd_den by')) ?_
    walk_at "rdf"
    refine mk_num (dd_ne x y) (dd_lt bx by') fun r H' s n h => ?_
    rw [sub_eq] at h
    exact k r H' s n h
end
end My

namespace My
open PySem L2
section
variable {P : Program} {w : World} {K : PySem.W.Frag} {mg : Str → Option Value} {base : Heap}
theorem ok_Number_times (T : Txt w K mg) : FnOk P w K mg base CX0 3 T.f_Number_times T.fd_Number_times ["self", "other"] (spBin T.C_Number (fun x y => x * y) fun _ _ => True) := by
  refine T.F_Number_times.ok sc_Number_times (fun vs H Q E h => ?_) (fun cdv A outer s H vs Q E hr h => ?_)
  · obtain ⟨p, q, x, y, rfl, _⟩ := h
    rfl
  · obtain ⟨p, q, x, y, rfl, ⟨dx, hp⟩, ⟨dy, hq⟩, bx, by', _, k⟩ := h
    have cN := T.c_Number
    have nT := T.n_Number_top
    have nB := T.n_Number_bottom
    refine ⟨_, (pss_one (ps_ret (pe_make T.mk_Number (ok_Number_init T) (hr.mono (by decide)) (by rfl) T.m_Number T.b_Number_init2 .nil pass0 (pa_cons (pe_op op_mulW (pe_fld (pv 0) rfl) (pe_fld (pv 1) rfl)) (pa_cons (pe_op op_mulW (pe_fld (pv 0) rfl) (pe_fld (pv 1) rfl)) pa_nil))))), ?_⟩
    walk_at "rdf"
    refine r_I (cm bx.1 by'.1) ?_
    walk_at "rdf"
    refine r_I (cm (bd_den bx) (bd_den by')) ?_
    walk_at "rdf"
    refine mk_num (dd_ne x y) (dd_lt bx by') fun r H' s n h => ?_
    rw [mul_eq] at h
    exact k r H' s n h
end
end My

namespace My
open PySem L2
section
variable {P : Program} {w : World} {K : PySem.W.Frag} {mg : Str → Option Value} {base : Heap}
theorem ok_Number_over (T : Txt w K mg) : FnOk P w K mg base CX0 3 T.f_Number_over T.fd_Number_over ["self", "other"] (spBin T.C_Number (fun x y => x / y) fun _ y => y ≠ 0) := by
  refine T.F_Number_over.ok sc_Number_over (fun vs H Q E h => ?_) (fun cdv A outer s H vs Q E hr h => ?_)
  · obtain ⟨p, q, x, y, rfl, _⟩ := h
    rfl
  · obtain ⟨p, q, x, y, rfl, ⟨dx, hp⟩, ⟨dy, hq⟩, bx, by', y0, k⟩ := h
    have cN := T.c_Number
    have nT := T.n_Number_top
    have nB := T.n_Number_bottom
    refine ⟨_, (pss_cons (ps_if (pt_cmpR op_eq (pe_fld (pv 1) rfl) pe_int (nomark _))
  (pss_one ps_never)
  pss_nil)
 (pss_one (ps_ret (pe_make T.mk_Number (ok_Number_init T) (hr.mono (by decide)) (by rfl) T.m_Number T.b_Number_init2 .nil pass0 (pa_cons (pe_op op_mulW (pe_fld (pv 0) rfl) (pe_fld (pv 1) rfl)) (pa_cons (pe_op op_mulW (pe_fld (pv 0) rfl) (pe_fld (pv 1) rfl)) pa_nil)))))), ?_⟩
    walk_at "rdf"
    refine r_iteF (decide_eq_false (num_ne y0)) ?_
    walk_at "rdf"
    refine r_I (cm bx.1 (bd_den by')) ?_
    walk_at "rdf"
    refine r_I (cm (bd_den bx) by'.1) ?_
    walk_at "rdf"
    refine mk_num (Int.mul_ne_zero (den_ne x) (num_ne y0)) (natAbs_mul_lt (bd_den bx) by'.1 (by decide)) fun r H' s n h => ?_
    rw [div_eq] at h
    exact k r H' s n h
end
end My

namespace My
open PySem L2
section
variable {P : Program} {w : World} {K : PySem.W.Frag} {mg : Str → Option Value} {base : Heap}
def spFloor (C : Addr) : Sp := fun vs H Q _ => ∃ (p : Addr) (x : Rat), vs = [.ref p] ∧ NumAt C H p x ∧ Bd 8000 x ∧ Q (.int x.floor) H
theorem ok_Number_floor (T : Txt w K mg) : FnOk P w K mg base CX0 1 T.f_Number_floor T.fd_Number_floor ["self"] (spFloor T.C_Number) := by
  refine T.F_Number_floor.ok sc_Number_floor (fun vs H Q E h => ?_) (fun cdv A outer s H vs Q E hr h => ?_)
  · obtain ⟨p, x, rfl, _⟩ := h
    rfl
  · obtain ⟨p, x, rfl, ⟨dx, hp⟩, bx, k⟩ := h
    have cN := T.c_Number
    have nT := T.n_Number_top
    have nB := T.n_Number_bottom
    refine ⟨_, (pss_one (ps_ret (pe_op op_fdivW (pe_fld (pv 0) rfl) (pe_fld (pv 0) rfl)))), ?_⟩
    walk_at "rdf"
    refine r_I (wide_div (by have := x.den_pos; omega) (bd_den bx) (by decide) (by decide)) ?_
    show Q (.int (x.num / (x.den : Int))) H
    rw [← Rat.floor_def]
    exact k
end
end My

namespace My
open PySem L2
section
variable {P : Program} {w : World} {K : PySem.W.Frag} {mg : Str → Option Value} {base : Heap}
theorem is_num (T : Txt w K mg) {H : Hp} {p : Addr} {q : Rat} {Q : VK} (h : NumAt T.C_Number H p q) (k : Q (.bl true) H) : rIsi K [.ref p, .ref T.C_Number] H Q := by
  obtain ⟨dx, e⟩ := h
  exact ⟨.ref p, .ref T.C_Number, .ref T.C_Number, .ref T.C_Number, true, rfl, .own _, .base (.ins e T.c_Number T.ty_Number_c T.ty_Number_g T.ty_Number_t T.ty_Number_m), T.ty_Number_k, k⟩
def spNumEq (C : Addr) : Sp := fun vs H Q _ => ∃ (a b : Addr) (x y : Rat), vs = [.ref a, .ref b] ∧ NumAt C H a x ∧ NumAt C H b y ∧ Q (.bl (decide (x = y))) H
theorem rat_dec (x y : Rat) : decide (x = y) = (decide (x.num = y.num) && decide ((x.den : Int) = (y.den : Int))) := by
  rw [Bool.eq_iff_iff, Bool.and_eq_true, decide_eq_true_eq, decide_eq_true_eq, decide_eq_true_eq]
  constructor
  · rintro rfl
    exact ⟨rfl, rfl⟩
  · rintro ⟨h1, h2⟩
    exact Rat.ext h1 (by omega)
theorem ok_Number_eq (T : Txt w K mg) : FnOk P w K mg base CX0 1 T.f_Number_eq T.fd_Number_eq ["self", "other"] (spNumEq T.C_Number) := by
  refine T.F_Number_eq.ok sc_Number_eq (fun vs H Q E h => ?_) (fun cdv A outer s H vs Q E hr h => ?_)
  · obtain ⟨a, b, x, y, rfl, _⟩ := h
    rfl
  · obtain ⟨a, b, x, y, rfl, ⟨dx, ha⟩, ⟨dy, hb⟩, k⟩ := h
    have cN := T.c_Number
    have nT := T.n_Number_top
    have nB := T.n_Number_bottom
    rw [rat_dec] at k
    refine ⟨_, (pss_one (ps_ret (pe_and (pe_callB call_isi (by rfl) T.n_isinstance (by decide +kernel) (pa_cons (pv 1) (pa_cons (pe_glob (v := .ref T.C_Number) (by rfl) T.m_Number rfl) pa_nil))) (pe_and (pe_cmpR op_eq (pe_fld (pv 0) rfl) (pe_fld (pv 1) rfl) (nomark _)) (pe_one (pe_cmpR op_eq (pe_fld (pv 0) rfl) (pe_fld (pv 1) rfl) (nomark _))))))), ?_⟩
    walk_at "rdf"
    refine is_num T ⟨_, hb⟩ ?_
    walk_at "rdf"
    refine r_iteT rfl ?_
    walk_at "rdf"
    refine r_ite (fun e => ?_) (fun e => ?_)
    · rw [e, Bool.true_and] at k
      walk_at "rdf"
      exact k
    · rw [e, Bool.false_and] at k
      exact k
theorem r_eqNum {C : Addr} {H : Hp} {a b : Addr} {x y : Rat} {Q : VK} (ha : NumAt C H a x) (hb : NumAt C H b y) (q : Q (.bl (decide (x = y))) H) : rEqOwn C (spNumEq C) (.ref a) (.ref b) H Q := by
  obtain ⟨dx, h1⟩ := ha
  obtain ⟨dy, h2⟩ := hb
  exact ⟨a, b, dx, dy, _, _, rfl, rfl, h1, h2, a, b, x, y, rfl, ⟨dx, h1⟩, ⟨dy, h2⟩, _, rfl, q⟩
theorem r_neNum {C : Addr} {H : Hp} {a b : Addr} {x y : Rat} {Q : VK} (ha : NumAt C H a x) (hb : NumAt C H b y) (q : Q (.bl (!decide (x = y))) H) : rNeOwn C (spNumEq C) (.ref a) (.ref b) H Q := by
  obtain ⟨dx, h1⟩ := ha
  obtain ⟨dy, h2⟩ := hb
  exact ⟨a, b, dx, dy, _, _, rfl, rfl, h1, h2, a, b, x, y, rfl, ⟨dx, h1⟩, ⟨dy, h2⟩, _, rfl, q⟩
end
end My

namespace My
open PySem L2
section
variable {P : Program} {w : World} {K : PySem.W.Frag} {mg : Str → Option Value} {base : Heap}
theorem no_below (q : Rat) : (nf q).lookup ("below" : Str) = none := nf_no _ (by decide +kernel) (by decide +kernel)
def spBelow (C : Addr) : Sp := fun vs H Q _ => ∃ (p q : Addr) (x y : Rat), vs = [.ref p, .ref q] ∧ NumAt C H p x ∧ NumAt C H q y ∧ Bd 4000 x ∧ Bd 4000 y ∧ Q (.bl (decide (x < y))) H
theorem ok_Number_below (T : Txt w K mg) : FnOk P w K mg base CX0 1 T.f_Number_below T.fd_Number_below ["self", "other"] (spBelow T.C_Number) := by
  refine T.F_Number_below.ok sc_Number_below (fun vs H Q E h => ?_) (fun cdv A outer s H vs Q E hr h => ?_)
  · obtain ⟨p, q, x, y, rfl, _⟩ := h
    rfl
  · obtain ⟨p, q, x, y, rfl, ⟨dx, hp⟩, ⟨dy, hq⟩, bx, by', k⟩ := h
    have cN := T.c_Number
    have nT := T.n_Number_top
    have nB := T.n_Number_bottom
    refine ⟨_, (pss_one (ps_ret (pe_cmpR op_lt (pe_op op_mulW (pe_fld (pv 0) rfl) (pe_fld (pv 1) rfl)) (pe_op op_mulW (pe_fld (pv 1) rfl) (pe_fld (pv 0) rfl)) (nomark _)))), ?_⟩
    rw [lt_dec] at k
    walk_at "rdf"
    refine r_I (cm bx.1 (bd_den by')) ?_
    walk_at "rdf"
    refine r_I (cm by'.1 (bd_den bx)) ?_
    walk_at "rdf"
    exact k
end
end My

namespace My
open PySem L2
section
variable {σ : L2.St} {H : Hp} {Q : VK} {v x y : V} {te ta to ti : TE} {tr : TA} {K : PySem.W.Frag} {nx : L2.St → Hp → Prop} {rt : VK} {bk ct : L2.St → Hp → Prop}
theorem r_par {i j : Nat} (q : tr σ H fun vs H1 => ∃ v w, vs = [v, w] ∧ nx ((σ.set i (some v)).set j (some w)) H1) : tPar i j tr ⟨nx, rt, bk, ct⟩ σ H := q
theorem r_two {P : V → V → Prop} (q : P x y) : ∃ v w, [x, y] = [v, w] ∧ P v w := ⟨x, y, rfl, q⟩
theorem r_m1 {r : V → List V → Hp → VK → Prop} (q : to σ H fun x H1 => (∃ a, x = .str a) ∧ te σ H1 fun y H2 => r x [y] H2 Q) : tM1 r to te σ H Q := q
theorem r_isStr {a : Str} {P : Prop} (q : P) : (∃ b, V.str a = .str b) ∧ P := ⟨⟨a, rfl⟩, q⟩
theorem r_inT {t : Addr} {xs : List V} {b : Bool} (h : H t = some (.tup xs)) (f : flatV x = true) (fs : xs.all flatV = true) (e : inV x xs = b) (q : Q (.bl b) H) : rIn K false x (.ref t) H Q := ⟨t, xs, rfl, .inr (SqT.of h), f, fs, by
  subst e
  exact q⟩
theorem r_notInT {t : Addr} {xs : List V} {b : Bool} (h : H t = some (.tup xs)) (f : flatV x = true) (fs : xs.all flatV = true) (e : inV x xs = b) (q : Q (.bl (!b)) H) : rIn K true x (.ref t) H Q := ⟨t, xs, rfl, .inr (SqT.of h), f, fs, by
  subst e
  exact q⟩
theorem r_isN {P : V → Hp → Prop} {b : Bool} (e : decide (x = V.non) = b) (q : P (.bl b) H) : V.non = V.non ∧ P (.bl (decide (x = V.non))) H := ⟨rfl, by rw [e]; exact q⟩
theorem r_lcT {tl : TE} {g : TG} {tt : TT} {vs : List Nat} (q : tl σ H fun x H1 => ∃ a, x = .ref a ∧ (∃ xs, SqT K H1 a xs) ∧ ∀ D, H1 D = none → ∃ W : Nat → Nat → Hp → Prop, (∃ m, W 0 m (upd H1 D (.lst []))) ∧ ∀ i m H, W i m H →
    ((Itt K a).stop i H ∧ Q (.ref D) H) ∨ ((Itt K a).go i H ∧ ∃ Nx : Hp → Prop, (∀ H', Nx H' → ∃ m', m' < m ∧ W (i + 1) m' H') ∧ ∀ x H', (Itt K a).yld i H x H' → g x (wipe σ vs) H' fun σ2 H2 => wipe σ2 vs = wipe σ vs ∧ tt σ2 H2 fun b H3 =>
      if b = true then te σ2 H3 fun y H4 => ∃ acc, H4 D = some (.lst acc) ∧ acc.length < sizeLine ∧ Nx (upd H4 D (.lst (acc ++ [y]))) else Nx H3)) : tLc (iTup K tl) g tt te vs σ H Q := q
theorem r_rng2 {g : TG} {tb : TS} {D : Ends} (q : tr σ H fun vs H1 => ∃ i j : Int, vs = [.int i, .int j] ∧ (-(2 ^ 62) ≤ i ∧ i < 2 ^ 62 ∧ -(2 ^ 62) ≤ j ∧ j < 2 ^ 62) ∧ ∃ W : Nat → Nat → L2.St → Hp → Prop, (∃ m, W 0 m σ H1) ∧ ∀ k m σ H, W k m σ H →
    ((Itr i (j - i).toNat).stop k H ∧ D.nx σ H) ∨ ((Itr i (j - i).toNat).go k H ∧ ∃ N : L2.St → Hp → Prop, (∀ σ' H', N σ' H' → ∃ m', m' < m ∧ W (k + 1) m' σ' H') ∧ ∀ x H', (Itr i (j - i).toNat).yld k H x H' → g x σ H' fun σ2 H2 => tb { D with nx := N, ct := N, bk := D.nx } σ2 H2)) : tFor (iRng2 tr) g tb D σ H := q
theorem r_gTup {a : Addr} {xs : List V} {n : Nat} {t : TGs} {QS : L2.St → Hp → Prop} (h : H a = some (.tup xs)) (l : xs.length = n) (q : t xs σ H QS) : gTup K n t (.ref a) σ H QS := ⟨a, xs, rfl, SqT.of h, l, q⟩
theorem r_gCons {t : TG} {u : TGs} {xs : List V} {QS : L2.St → Hp → Prop} (q : t x σ H fun σ' H' => u xs σ' H' QS) : gCons t u (x :: xs) σ H QS := ⟨x, xs, rfl, q⟩
theorem r_gNil {QS : L2.St → Hp → Prop} (q : QS σ H) : gNil [] σ H QS := ⟨rfl, q⟩
theorem r_aug {i : Nat} {ti : TIp} (q : ∃ x, σ[i]? = some (some x) ∧ te σ H fun y H1 => ti x y H1 fun z H2 => nx (σ.set i (some z)) H2) : tAug i te ti ⟨nx, rt, bk, ct⟩ σ H := q
theorem r_ip {f : Int → Int → Int} {i j : Int} (q : Q (.int (f i j)) H) : ipI f (.int i) (.int j) H Q := ⟨i, j, rfl, rfl, q⟩
theorem r_bits (q : to σ H fun x H1 => ∃ i, x = .int i ∧ Q (.int (Builtin.Int.intBits i : Nat)) H1) : tBits to σ H Q := q
theorem r_dget2 {td ty tx : TE} (q : td σ H fun x H1 => ∃ a, x = .ref a ∧ IsD H1 a ∧ ty σ H1 fun y H2 => tx σ H2 fun z H3 => ∃ o, DGet H3 a y o ∧ Q (o.getD z) H3) : tDGet2 td ty tx σ H Q := q
theorem r_rng1 {g : TG} {tb : TS} {D : Ends} (q : tr σ H fun vs H1 => ∃ j : Int, vs = [.int j] ∧ -(2 ^ 62) ≤ j ∧ j < 2 ^ 62 ∧ ∃ W : Nat → Nat → L2.St → Hp → Prop, (∃ m, W 0 m σ H1) ∧ ∀ k m σ H, W k m σ H →
    ((Itr 0 j.toNat).stop k H ∧ D.nx σ H) ∨ ((Itr 0 j.toNat).go k H ∧ ∃ N : L2.St → Hp → Prop, (∀ σ' H', N σ' H' → ∃ m', m' < m ∧ W (k + 1) m' σ' H') ∧ ∀ x H', (Itr 0 j.toNat).yld k H x H' → g x σ H' fun σ2 H2 => tb { D with nx := N, ct := N, bk := D.nx } σ2 H2)) : tFor (iRng1 tr) g tb D σ H := q
end
end My

local macro_rules | `(tactic| walk_at "rd2") => `(tactic| first
  | with_reducible refine My.r_par ?_
  | with_reducible refine My.r_two ?_
  | with_reducible refine My.r_m1 ?_
  | with_reducible refine My.r_isStr ?_
  | with_reducible refine My.r_gCons ?_
  | with_reducible refine My.r_gNil ?_
  | ((with_reducible refine My.r_aug ?_); refine ⟨_, rfl, ?_⟩)
  | with_reducible refine My.r_ip ?_
  | with_reducible refine My.r_bits ?_)
local macro_rules | `(tactic| walk_at "rdg") => `(tactic| (repeat (first | walk_at "rd1" | walk_at "rd2")))

namespace My
open PySem L2
section
variable {σ : L2.St} {H : Hp} {Q : VK} {v x y : V} {te ta to ti td ty tk tv : TE} {K : PySem.W.Frag}
theorem r_disp {trs : List (TE × TE)} (q : ∀ p, H p = none → tPairs trs σ (upd H p (.dK [])) fun ps H2 => H2 p = some (.dK []) ∧ ∃ kvs : List (Key × V), ps = kvs.map (fun kv => (kV kv.1, kv.2)) ∧ kvs.length ≤ 15 ∧ Q (.ref p) (upd H2 p (.dK (mergeK [] kvs)))) : tDisp trs σ H Q := q
theorem r_pair {r : List (TE × TE)} {QP : List (V × V) → Hp → Prop} (q : tk σ H fun x H1 => tv σ H1 fun y H2 => tPairs r σ H2 fun ps H3 => QP ((x, y) :: ps) H3) : tPairs ((tk, tv) :: r) σ H QP := q
theorem r_pair0 {QP : List (V × V) → Hp → Prop} (q : QP [] H) : tPairs [] σ H QP := q
theorem r_dget (q : td σ H fun x H1 => ty σ H1 fun y H2 => ∃ a v, x = .ref a ∧ DGet H2 a y (some v) ∧ Q v H2) : tDGet td ty σ H Q := q
theorem r_din (q : ty σ H fun y H1 => td σ H1 fun x H2 => ∃ a o, x = .ref a ∧ DGet H2 a y o ∧ Q (.bl o.isSome) H2) : tDIn ty td σ H Q := q
theorem Same.dict {H : Hp} {p : Addr} {o1 o2 : HO} (h : H p = none) : Same H (upd (upd H p o1) p o2) := fun b o e => by
  rw [upd_ne (ne_of_none e h), upd_ne (ne_of_none e h)]
  exact e
end
end My

local macro_rules | `(tactic| walk_at "rd3") => `(tactic| first
  | with_reducible refine My.r_pair ?_
  | with_reducible refine My.r_pair0 ?_
  | with_reducible refine My.r_dget ?_
  | with_reducible refine My.r_din ?_)
local macro_rules | `(tactic| walk_at "rdh") => `(tactic| (repeat (first | walk_at "rd1" | walk_at "rd2" | walk_at "rd3")))

namespace My
open PySem L2
section
variable {σ : L2.St} {H : Hp} {Q : VK} {v x y : V} {te ta to ti : TE} {tr : TA} {K : PySem.W.Frag} {nx : L2.St → Hp → Prop} {rt : VK} {bk ct : L2.St → Hp → Prop}
theorem r_lcL {tl : TE} {g : TG} {tt : TT} {vs : List Nat} (q : tl σ H fun x H1 => ∃ a, x = .ref a ∧ (∃ xs, SqL K H1 a xs) ∧ ∀ D, H1 D = none → ∃ W : Nat → Nat → Hp → Prop, (∃ m, W 0 m (upd H1 D (.lst []))) ∧ ∀ i m H, W i m H →
    ((Itl K a).stop i H ∧ Q (.ref D) H) ∨ ((Itl K a).go i H ∧ ∃ Nx : Hp → Prop, (∀ H', Nx H' → ∃ m', m' < m ∧ W (i + 1) m' H') ∧ ∀ x H', (Itl K a).yld i H x H' → g x (wipe σ vs) H' fun σ2 H2 => wipe σ2 vs = wipe σ vs ∧ tt σ2 H2 fun b H3 =>
      if b = true then te σ2 H3 fun y H4 => ∃ acc, H4 D = some (.lst acc) ∧ acc.length < sizeLine ∧ Nx (upd H4 D (.lst (acc ++ [y]))) else Nx H3)) : tLc (iList K tl) g tt te vs σ H Q := q
theorem r_forL {tl : TE} {g : TG} {tb : TS} {D : Ends} (q : tl σ H fun x H1 => ∃ a, x = .ref a ∧ (∃ xs, SqL K H1 a xs) ∧ ∃ W : Nat → Nat → L2.St → Hp → Prop, (∃ m, W 0 m σ H1) ∧ ∀ i m σ H, W i m σ H →
    ((Itl K a).stop i H ∧ D.nx σ H) ∨ ((Itl K a).go i H ∧ ∃ N : L2.St → Hp → Prop, (∀ σ' H', N σ' H' → ∃ m', m' < m ∧ W (i + 1) m' σ' H') ∧ ∀ x H', (Itl K a).yld i H x H' → g x σ H' fun σ2 H2 => tb { D with nx := N, ct := N, bk := D.nx } σ2 H2)) : tFor (iList K tl) g tb D σ H := q
theorem r_cat {l b : Addr} {xs zs : List V} (h1 : H l = some (.lst xs)) (h2 : H b = some (.lst zs)) (n : xs.length + zs.length ≤ 100000) (q : ∀ p, H p = none → Q (.ref p) (upd H p (.lst (xs ++ zs)))) : rCat (.ref l) (.ref b) H Q := ⟨l, b, xs, zs, rfl, rfl, h1, h2, Nat.le_trans n (by decide), q⟩
theorem r_iteR {A B : Prop} {k : Bool} (b : B) (h : k = true → B → A) : if k = true then A else B := by
  cases k with
  | true => exact h rfl b
  | false => exact b
theorem r_inAny {t : Addr} {xs : List V} {b : Bool} {n : Bool} (h : H t = some (.tup xs)) (f : flatV x = true) (fs : xs.all flatV = true) (e : inV x xs = b) (q : Q (.bl (if n then !b else b)) H) : rIn K n x (.ref t) H Q := ⟨t, xs, rfl, .inr (SqT.of h), f, fs, by
  subst e
  cases n <;> exact q⟩
end
end My
namespace My
open PySem L2
theorem r_cut {t u : TS} {σ : L2.St} {H : Hp} {nx : L2.St → Hp → Prop} {rt : VK} {bk ct : L2.St → Hp → Prop} (Mid : L2.St → Hp → Prop) (h1 : t ⟨Mid, rt, bk, ct⟩ σ H) (h2 : ∀ σ' H', Mid σ' H' → u ⟨nx, rt, bk, ct⟩ σ' H') : C8.tCut t u ⟨nx, rt, bk, ct⟩ σ H := ⟨Mid, h1, h2⟩
end My

namespace My
open PySem L2
section
variable {P : Program} {w : World} {K : PySem.W.Frag} {mg : Str → Option Value} {base : Heap}
/-! ### the deck -/
/-- a deck at d, its cells at c -/
def DeckAt (H : Hp) (d c : Addr) : Prop := ∃ (s n : Int) (xs : List Int), H d = some (.lst [.ref c, .int s, .int n]) ∧ H c = some (.lst (xs.map V.int)) ∧ xs.length ≤ 63 ∧ d ≠ c
theorem DeckAt.same {H H' : Hp} {d c : Addr} (s : Same H H') (h : DeckAt H d c) : DeckAt H' d c := let ⟨a, n, xs, h1, h2, h3, h4⟩ := h; ⟨a, n, xs, s _ _ h1, s _ _ h2, h3, h4⟩
/-- what is no list stays -/
theorem Off.keep {H H' : Hp} {d c b : Addr} {o : HO} (s : Off d c H H') (hd : DeckAt H d c) (h : H b = some o) (hn : ∀ xs, o ≠ .lst xs) : H' b = some o := by
  obtain ⟨_, _, _, h1, h2, _, _⟩ := hd
  exact s b o (ne_of h h1 (hn _)) (ne_of h h2 (hn _)) h
def spDeck (K : PySem.W.Frag) : Sp := fun vs H Q _ => ∃ (a : Addr) (ns : List Int), vs = [.ref a] ∧ SqL K H a (ns.map V.int) ∧ ns.length ≤ 63 ∧ ∀ (d c : Addr) (H' : Hp), Same H H' → DeckAt H' d c → Q (.ref d) H'
theorem ok_l_deck (T : Txt w K mg) : FnOk P w K mg base CX0 1 T.f_l_deck T.fd_l_deck ["_law_script"] (spDeck K) := by
  refine T.F_l_deck.ok sc_l_deck (fun vs H Q E h => ?_) (fun cdv A outer s H vs Q E hr h => ?_)
  · obtain ⟨a, ns, rfl, _⟩ := h
    rfl
  · obtain ⟨a, ns, rfl, hS, hl, k⟩ := h
    refine ⟨_, (pss_cons (ps_set (i := 1) sc_l_deck.nd rfl (Or.inl rfl) (pe_callTy call_list_of (by rfl) T.n_list (by decide +kernel) (pa_cons (pe_slice sl_list (pv 0) po_none (po_some pe_int)) pa_nil)))
 (pss_cons (ps_set (i := 2) sc_l_deck.nd rfl (Or.inl rfl) pe_int)
 (pss_cons (ps_for PassesOwn.never rfl (pi_list (pv 1)) (pg_name (i := 3) sc_l_deck.nd rfl (Or.inl rfl))
  (pss_one (ps_set (i := 2) sc_l_deck.nd rfl (Or.inl rfl) (pe_op op_mod (pe_op op_add (pe_op op_add (pe_op op_mul (pv 2) pe_int) (pe_op op_mod (pv 3) pe_int)) pe_int) pe_int))))
 (pss_one (ps_ret (pe_lst (pa_cons (pe_revL (pv 1)) (pa_cons (pv 2) (pa_cons pe_int pa_nil))))))))), ?_⟩
    walk_at "rd"
    refine ⟨a, _, rfl, hS, fun p hp => ?_⟩
    obtain ⟨ms, em, lm⟩ := cut_ints ns 63
    rw [em]
    walk_at "rd"
    refine ⟨p, _, rfl, .inl (SqL.of upd_same), fun l hl' => ?_⟩
    have s1 : Same H (upd H p (.lst (ms.map V.int))) := Same.new hp
    have s2 : Same H (upd (upd H p (.lst (ms.map V.int))) l (.lst (ms.map V.int))) := s1.trans (Same.new hl')
    walk_at "rd"
    generalize hH2 : upd (upd H p (.lst (ms.map V.int))) l (.lst (ms.map V.int)) = H2 at *
    have hL : H2 l = some (.lst (ms.map V.int)) := by rw [← hH2]; exact upd_same
    refine ⟨_, rfl, l, rfl, ⟨_, SqL.of hL⟩, for_list (K := K) (a := l) (xs := ms.map V.int) (fun i σ H' => ∃ (z : Int) (v : Option V), σ = [some (.ref a), some (.ref l), some (.int z), v] ∧ H' = H2)
      ⟨23, none, rfl, rfl⟩ (fun i σ H' _ ⟨_, _, _, e⟩ => e ▸ SqL.of hL) ?_ ?_⟩
    · rintro i y σ H' hi ⟨z, v, rfl, rfl⟩
      obtain ⟨u, rfl⟩ : ∃ u, y = V.int u := by
        rw [List.getElem?_map] at hi
        cases e : ms[i]? with
        | none => rw [e] at hi; cases hi
        | some u => rw [e] at hi; exact ⟨u, (Option.some.inj hi).symm⟩
      walk_at "rd"
      exact ⟨_, _, rfl, rfl⟩
    · rintro σ H' ⟨z, v, rfl, rfl⟩
      walk_at "rd"
      refine ⟨l, _, rfl, SqL.of hL, fun c hc => ?_⟩
      walk_at "rd"
      refine r_new (by show 3 ≤ 1000; decide) fun d hd => ?_
      have hc2 : c ≠ d := ne_of_none upd_same hd
      refine k d c _ ((s2.trans (Same.new hc)).trans (Same.new hd)) ⟨z, 0, ms.reverse, upd_same, ?_, by rw [List.length_reverse]; omega, hc2.symm⟩
      rw [upd_ne hc2, upd_same, List.map_reverse]
/-! ### a draw -/
def spDraw : Sp := fun vs H Q _ => ∃ (d c : Addr) (w : Int), vs = [.ref d, .int w] ∧ DeckAt H d c ∧ 0 < w ∧ w.natAbs < 2 ^ 9000 ∧ ∀ (r : Int) (H' : Hp), Off d c H H' → DeckAt H' d c → 0 ≤ r → r < w → Q (.int r) H'
theorem lin31 {x : Int} : (0 : Int) ≤ x % 2147483647 ∧ x % 2147483647 < 2147483647 := ⟨Int.emod_nonneg _ (by decide), Int.emod_lt_of_pos _ (by decide)⟩
theorem ok_l_draw (T : Txt w K mg) : FnOk P w K mg base CX0 1 T.f_l_draw T.fd_l_draw ["_law_deck_here", "_law_ways"] spDraw := by
  refine T.F_l_draw.ok sc_l_draw (fun vs H Q E h => ?_) (fun cdv A outer s H vs Q E hr h => ?_)
  · obtain ⟨d, c, v, rfl, _⟩ := h
    rfl
  · obtain ⟨d, c, v, rfl, ⟨z, n, xs, hd, hc, hl, ne⟩, v0, vb, k⟩ := h
    refine ⟨_, (pss_cons (ps_asg (pe_op op_add (pe_ix ix_list (pv 0) pe_int (fun _ _ => rfl)) pe_int) (pg_sub (pv 0) pe_int set_list))
 (pss_cons (ps_set (i := 2) sc_l_draw.nd rfl (Or.inl rfl) (pe_ix ix_list (pv 0) pe_int (fun _ _ => rfl)))
 (pss_cons (ps_if (pt_cmpR (op_neD hr.units) (pe_ix ix_list (pv 0) pe_int (fun _ _ => rfl)) (pe_lst pa_nil) (nomark _))
  (pss_cons (ps_set (i := 2) sc_l_draw.nd rfl (Or.inl rfl) (pe_bm0 PySem.F.plainAttrs_list PySem.F.slot_list_pop PySem.F.type_list_pop mt_pop (pe_ix ix_list (pv 0) pe_int (fun _ _ => rfl))))
 (pss_one (ps_if (pt_cmpR op_ge (pv 2) (pe_op op_pow pe_int pe_int) (nomark _))
  (pss_cons (ps_expr (pe_bm PySem.F.plainAttrs_list PySem.F.slot_list_append PySem.F.type_list_append mt_append (pe_ix ix_list (pv 0) pe_int (fun _ _ => rfl)) (pa_cons (pe_op op_fdivW (pv 2) (pv 1)) pa_nil)))
 (pss_one (ps_ret (pe_op op_mod (pv 2) (pv 1)))))
  pss_nil)))
  pss_nil)
 (pss_cons (ps_set (i := 3) sc_l_draw.nd rfl (Or.inl rfl) (pe_op op_mod (pe_op op_mul (pe_op op_add (pe_op op_add (pe_op op_mod (pv 2) pe_int) (pe_op op_mul pe_int (pe_ix ix_list (pv 0) pe_int (fun _ _ => rfl)))) pe_int) pe_int) pe_int))
 (pss_cons (ps_set (i := 3) sc_l_draw.nd rfl (Or.inl rfl) (pe_op op_mod (pe_op op_add (pe_op op_add (pe_op op_mulW (pv 3) (pv 3)) (pe_op op_mul pe_int (pe_ix ix_list (pv 0) pe_int (fun _ _ => rfl)))) pe_int) pe_int))
 (pss_one (ps_ret (pe_op op_mod (pe_op op_fdiv (pe_op op_mod (pe_op op_mulW (pv 3) (pe_op op_add (pe_op op_fdiv (pv 3) pe_int) pe_int)) pe_int) pe_int) (pv 1))))))))), ?_⟩
    walk_at "rd"
    refine r_ixL hd (atI_nat (j := 2) rfl) ?_
    walk_at "rd"
    refine r_setL hd (j := 2) rfl ?_
    have o1 : Off d c H (upd H d (.lst [.ref c, .int z, .int (n + 1)])) := fun b o h1 h2 h => by rw [upd_ne h1]; exact h
    have hd1 : (upd H d (.lst [.ref c, .int z, .int (n + 1)])) d = some (.lst [.ref c, .int z, .int (n + 1)]) := upd_same
    have hc1 : (upd H d (.lst [.ref c, .int z, .int (n + 1)])) c = some (.lst (xs.map V.int)) := by rw [upd_ne ne.symm]; exact hc
    show (_ : TS) _ _ (upd H d (.lst [.ref c, .int z, .int (n + 1)]))
    generalize (upd H d (.lst [.ref c, .int z, .int (n + 1)])) = H1 at *
    have post : ∀ (cell : Int) (H2 : Hp), Off d c H H2 → (∃ ys : List Int, H2 c = some (.lst (ys.map V.int)) ∧ ys.length ≤ 63) → H2 d = some (.lst [.ref c, .int z, .int (n + 1)]) → ∀ r : Int, 0 ≤ r → r < v → Q (.int r) H2 := by
      intro cell H2 o2 ⟨ys, hy, ly⟩ h2 r r0 r1
      exact k r H2 o2 ⟨z, n + 1, ys, h2, hy, ly, ne⟩ r0 r1
    have pmod : ∀ x : Int, 0 ≤ x % v ∧ x % v < v := fun x => ⟨Int.emod_nonneg _ (by omega), Int.emod_lt_of_pos _ v0⟩
    walk_at "rd"
    refine r_ixL hd1 (atI_nat (j := 1) rfl) ?_
    walk_at "rd"
    refine r_ixL hd1 (atI_nat (j := 0) rfl) ?_
    walk_at "rd"
    refine r_new (by show 0 ≤ 1000; decide) fun e he => ?_
    have hc2 : upd H1 e (.lst []) c = some (.lst (xs.map V.int)) := by rw [upd_ne (ne_of_none hc1 he)]; exact hc1
    have hd2 : upd H1 e (.lst []) d = some (.lst [.ref c, .int z, .int (n + 1)]) := by rw [upd_ne (ne_of_none hd1 he)]; exact hd1
    have o2 : Off d c H (upd H1 e (.lst [])) := o1.trans (Off.of (Same.new he))
    refine r_neInts (xs := xs) (ys := []) (SqL.of hc2) (SqL.of upd_same) ?_
    generalize upd H1 e (.lst []) = H2 at *
    walk_at "rd"
    refine r_ite (fun hx => ?_) (fun hx => ?_)
    · obtain ⟨ys, y, rfl⟩ : ∃ ys y, xs = ys ++ [y] := by
        have hx' : xs ≠ [] := by simpa using hx
        exact ⟨xs.dropLast, xs.getLast hx', (List.dropLast_concat_getLast hx').symm⟩
      rw [List.map_append] at hc2
      rw [List.length_append, List.length_singleton] at hl
      walk_at "rd"
      refine r_ixL hd2 (atI_nat (j := 0) rfl) ?_
      refine ⟨ty_list hc2, r_pop hc2 ?_⟩
      have hc3 : upd H2 c (.lst (ys.map V.int)) c = some (.lst (ys.map V.int)) := upd_same
      have hd3 : upd H2 c (.lst (ys.map V.int)) d = some (.lst [.ref c, .int z, .int (n + 1)]) := by rw [upd_ne ne]; exact hd2
      have o3 : Off d c H (upd H2 c (.lst (ys.map V.int))) := o2.trans fun b o h1 h2 h => by rw [upd_ne h2]; exact h
      generalize upd H2 c (.lst (ys.map V.int)) = H3 at *
      walk_at "rd"
      refine r_ite (fun hy => ?_) (fun hy => ?_)
      · walk_at "rd"
        refine r_ixL hd3 (atI_nat (j := 0) rfl) ?_
        refine ⟨ty_list hc3, ?_⟩
        walk_at "rd"
        refine r_I (wide_div v0 vb (by decide) (Nat.le_refl _)) ?_
        walk_at "rd"
        refine r_append hc3 (by rw [List.length_map]; omega) ?_
        walk_at "rd"
        refine r_I v0 ?_
        refine post y _ (o3.trans fun b o h1 h2 h => by rw [upd_ne h2]; exact h) ⟨ys ++ [y / v], ?_, by rw [List.length_append, List.length_singleton]; omega⟩ (by rw [upd_ne ne]; exact hd3) _ (pmod y).1 (pmod y).2
        rw [upd_same, List.map_append]; rfl
      · walk_at "rd"
        refine r_ixL hd3 (atI_nat (j := 2) rfl) ?_
        walk_at "rd"
        refine r_I (wide_mul (a := 31) (b := 31) (by have := @lin31 ((y % 2147483629 + 104729 * (n + 1) + 41) * 48271); omega) (by have := @lin31 ((y % 2147483629 + 104729 * (n + 1) + 41) * 48271); omega) (by decide) (by decide) (by decide)) ?_
        walk_at "rd"
        refine r_ixL hd3 (atI_nat (j := 2) rfl) ?_
        walk_at "rd"
        generalize (y % 2147483629 + 104729 * (n + 1) + 41) * 48271 % 2147483647 * ((y % 2147483629 + 104729 * (n + 1) + 41) * 48271 % 2147483647) + 69621 * (n + 1) + 3 = m
        have hm : (0 : Int) ≤ m % 2147483587 ∧ m % 2147483587 < 2147483587 := ⟨Int.emod_nonneg _ (by decide), Int.emod_lt_of_pos _ (by decide)⟩
        refine r_I (wide_mul (a := 31) (b := 31) (by omega) (by omega) (by decide) (by decide) (by decide)) ?_
        walk_at "rd"
        refine r_I v0 ?_
        exact post y _ o3 ⟨ys, hc3, by omega⟩ hd3 _ (pmod _).1 (pmod _).2
    · walk_at "rd"
      refine r_ixL hd2 (atI_nat (j := 2) rfl) ?_
      walk_at "rd"
      refine r_I (wide_mul (a := 31) (b := 31) (by have := @lin31 ((z % 2147483629 + 104729 * (n + 1) + 41) * 48271); omega) (by have := @lin31 ((z % 2147483629 + 104729 * (n + 1) + 41) * 48271); omega) (by decide) (by decide) (by decide)) ?_
      walk_at "rd"
      refine r_ixL hd2 (atI_nat (j := 2) rfl) ?_
      walk_at "rd"
      generalize (z % 2147483629 + 104729 * (n + 1) + 41) * 48271 % 2147483647 * ((z % 2147483629 + 104729 * (n + 1) + 41) * 48271 % 2147483647) + 69621 * (n + 1) + 3 = m
      have hm : (0 : Int) ≤ m % 2147483587 ∧ m % 2147483587 < 2147483587 := ⟨Int.emod_nonneg _ (by decide), Int.emod_lt_of_pos _ (by decide)⟩
      refine r_I (wide_mul (a := 31) (b := 31) (by omega) (by omega) (by decide) (by decide) (by decide)) ?_
      walk_at "rd"
      refine r_I v0 ?_
      exact post 0 _ o2 ⟨xs, hc2, hl⟩ hd2 _ (pmod _).1 (pmod _).2
end
end My

namespace My
open PySem L2
theorem atI_mem {α : Type} {xs : List α} {r : Int} (h0 : 0 ≤ r) (h1 : r < (xs.length : Int)) : ∃ v, atI xs r = some v ∧ v ∈ xs := by
  obtain ⟨n, rfl⟩ := Int.eq_ofNat_of_zero_le h0
  have hn : n < xs.length := by omega
  exact ⟨xs[n], atI_nat (List.getElem?_eq_getElem hn), List.getElem_mem hn⟩
theorem fresh_ne {H : Hp} {d c p : Addr} (h : DeckAt H d c) (hp : H p = none) : p ≠ d ∧ p ≠ c := by
  obtain ⟨_, _, _, h1, h2, _, _⟩ := h
  exact ⟨(ne_of_none h1 hp).symm, (ne_of_none h2 hp).symm⟩
theorem lt9000 {v : Int} (h : v.natAbs < 2 ^ 200) : v.natAbs < 2 ^ 9000 := Nat.lt_of_lt_of_le h (Nat.pow_le_pow_right (by decide) (by decide))
/-- a draw, as it is read -/
theorem rd_draw {H : Hp} {d c : Addr} {v : Int} {Q : VK} {E : XK} (dk : DeckAt H d c) (h0 : 0 < v) (h1 : v.natAbs < 2 ^ 200) (q : ∀ (r : Int) (H' : Hp), Off d c H H' → DeckAt H' d c → 0 ≤ r → r < v → Q (.int r) H') : spDraw ([V.ref d, V.int v] ++ []) H Q E :=
  ⟨d, c, v, rfl, dk, h0, lt9000 h1, q⟩
end My

namespace My
open PySem L2
section
variable {P : Program} {w : World} {K : PySem.W.Frag} {mg : Str → Option Value} {base : Heap}
/-! ### a grain -/
def GrainOk (H : Hp) (v : V) : Prop := ∃ (p : Addr) (a b : Int), v = .ref p ∧ H p = some (.tup [.int a, .int b]) ∧ (0 < a ∧ a < 2 ^ 60) ∧ (0 < b ∧ b < 2 ^ 60)
/-- the deck stands, what stood stays but for it, the grains made are grains -/
structure GSt (H0 : Hp) (d c : Addr) (H : Hp) (vs : List V) : Prop where
  off : Off d c H0 H
  dk : DeckAt H d c
  all : ∀ v ∈ vs, GrainOk H v
theorem GSt.tup {H0 H : Hp} {d c p : Addr} {vs : List V} {a b : Int} (s : GSt H0 d c H vs) (hp : H p = none) (ha : 0 < a ∧ a < 2 ^ 60) (hb : 0 < b ∧ b < 2 ^ 60) : GSt H0 d c (upd H p (.tup [.int a, .int b])) (.ref p :: vs) := by
  refine ⟨s.off.trans (Off.of (Same.new hp)), s.dk.same (Same.new hp), fun v hv => ?_⟩
  rcases List.mem_cons.mp hv with rfl | hv
  · exact ⟨p, a, b, rfl, upd_same, ha, hb⟩
  · obtain ⟨q, x, y, e, h, h1, h2⟩ := s.all v hv
    exact ⟨q, x, y, e, Same.new hp _ _ h, h1, h2⟩
theorem GSt.lst {H0 H : Hp} {d c p : Addr} {vs xs : List V} (s : GSt H0 d c H vs) (hp : H p = none) : GSt H0 d c (upd H p (.lst xs)) vs := by
  refine ⟨s.off.trans (Off.of (Same.new hp)), s.dk.same (Same.new hp), fun v hv => ?_⟩
  obtain ⟨q, x, y, e, h, h1, h2⟩ := s.all v hv
  exact ⟨q, x, y, e, Same.new hp _ _ h, h1, h2⟩
theorem GSt.draw {H0 H H' : Hp} {d c : Addr} {vs : List V} (s : GSt H0 d c H vs) (o : Off d c H H') (dk : DeckAt H' d c) : GSt H0 d c H' vs := by
  refine ⟨s.off.trans o, dk, fun v hv => ?_⟩
  obtain ⟨q, x, y, e, h, h1, h2⟩ := s.all v hv
  exact ⟨q, x, y, e, o.keep s.dk h (fun _ z => by cases z), h1, h2⟩
def spGrain : Sp := fun vs H Q _ => ∃ (d c : Addr), vs = [.ref d] ∧ DeckAt H d c ∧
  ∀ (p : Addr) (a b : Int) (H' : Hp), Off d c H H' → DeckAt H' d c → H' p = some (.tup [.int a, .int b]) → (0 < a ∧ a < 2 ^ 60) → (0 < b ∧ b < 2 ^ 60) → Q (.ref p) H'
theorem ok_l_grain (T : Txt w K mg) : FnOk P w K mg base CX0 2 T.f_l_grain T.fd_l_grain ["_law_deck_here"] spGrain := by
  refine T.F_l_grain.ok sc_l_grain (fun vs H Q E h => ?_) (fun cdv A outer s H vs Q E hr h => ?_)
  · obtain ⟨d, c, rfl, _⟩ := h
    rfl
  · obtain ⟨d, c, rfl, dk, k⟩ := h
    refine ⟨_, (pss_cons (ps_set (i := 1) sc_l_grain.nd rfl (Or.inl rfl) (pe_ix ix_list (pe_lst (pa_cons pe_int (pa_cons pe_int (pa_cons (pe_op op_pow pe_int pe_int) (pa_cons (pe_op op_pow pe_int pe_int) (pa_cons (pe_op op_pow pe_int pe_int) (pa_cons (pe_op op_pow pe_int pe_int) (pa_cons (pe_op op_pow pe_int pe_int) pa_nil)))))))) (pe_call (ok_l_draw T) (hr.mono (by decide)) (by rfl) T.m_l_draw T.F_l_draw.kp T.b_l_draw .nil pass0 (pa_cons (pv 0) (pa_cons pe_int pa_nil))) (fun _ _ => rfl)))
 (pss_cons (ps_set (i := 2) sc_l_grain.nd rfl (Or.inl rfl) (pe_lst (pa_cons (pe_tup (pa_cons pe_int (pa_cons pe_int pa_nil))) (pa_cons (pe_tup (pa_cons pe_int (pa_cons (pv 1) pa_nil))) (pa_cons (pe_tup (pa_cons (pv 1) (pa_cons pe_int pa_nil))) (pa_cons (pe_tup (pa_cons pe_int (pa_cons pe_int pa_nil))) (pa_cons (pe_tup (pa_cons pe_int (pa_cons pe_int pa_nil))) (pa_cons (pe_tup (pa_cons pe_int (pa_cons pe_int pa_nil))) (pa_cons (pe_tup (pa_cons (pe_op op_add pe_int (pe_call (ok_l_draw T) (hr.mono (by decide)) (by rfl) T.m_l_draw T.F_l_draw.kp T.b_l_draw .nil pass0 (pa_cons (pv 0) (pa_cons pe_int pa_nil)))) (pa_cons (pe_op op_add pe_int (pe_call (ok_l_draw T) (hr.mono (by decide)) (by rfl) T.m_l_draw T.F_l_draw.kp T.b_l_draw .nil pass0 (pa_cons (pv 0) (pa_cons pe_int pa_nil)))) pa_nil))) pa_nil)))))))))
 (pss_cons (ps_set (i := 2) sc_l_grain.nd rfl (Or.inl rfl) (pe_op op_cat (pv 2) (pe_lst (pa_cons (pe_tup (pa_cons pe_int (pa_cons pe_int pa_nil))) (pa_cons (pe_tup (pa_cons (pe_op op_mul (pv 1) pe_int) (pa_cons pe_int pa_nil))) (pa_cons (pe_tup (pa_cons (pe_op op_add pe_int (pe_call (ok_l_draw T) (hr.mono (by decide)) (by rfl) T.m_l_draw T.F_l_draw.kp T.b_l_draw .nil pass0 (pa_cons (pv 0) (pa_cons (pe_op op_pow pe_int pe_int) pa_nil)))) (pa_cons (pe_op op_add pe_int (pe_call (ok_l_draw T) (hr.mono (by decide)) (by rfl) T.m_l_draw T.F_l_draw.kp T.b_l_draw .nil pass0 (pa_cons (pv 0) (pa_cons (pe_op op_pow pe_int pe_int) pa_nil)))) pa_nil))) pa_nil))))))
 (pss_one (ps_ret (pe_ix ix_list (pv 2) (pe_call (ok_l_draw T) (hr.mono (by decide)) (by rfl) T.m_l_draw T.F_l_draw.kp T.b_l_draw .nil pass0 (pa_cons (pv 0) (pa_cons pe_int pa_nil))) (fun _ _ => rfl))))))), ?_⟩
    walk_at "rd"
    refine r_new (by show 7 ≤ 1000; decide) fun l hl => ?_
    obtain ⟨l1, l2⟩ := fresh_ne dk hl
    have S0 : GSt H d c H [] := ⟨Off.refl _ _ _, dk, fun v hv => by cases hv⟩
    have S1 := S0.lst (xs := [.int 1, .int 10, .int (10 ^ (2 : Int).toNat), .int (10 ^ (3 : Int).toNat), .int (10 ^ (4 : Int).toNat), .int (10 ^ (6 : Int).toNat), .int (10 ^ (8 : Int).toNat)]) hl
    walk_at "rd"
    refine rd_draw S1.dk (by decide) (by decide) fun r H2 o2 dk2 r0 r1 => ?_
    have S2 := S1.draw o2 dk2
    have hL := o2 l _ l1 l2 upd_same
    obtain ⟨t, at_, tm⟩ := atI_mem (xs := [V.int 1, .int 10, .int (10 ^ (2 : Int).toNat), .int (10 ^ (3 : Int).toNat), .int (10 ^ (4 : Int).toNat), .int (10 ^ (6 : Int).toNat), .int (10 ^ (8 : Int).toNat)]) r0 r1
    refine r_ixL hL at_ ?_
    obtain ⟨t, rfl, t0⟩ : ∃ i : Int, t = .int i ∧ (0 < i ∧ i < 2 ^ 40) := by
      simp only [List.mem_cons, List.not_mem_nil, or_false] at tm
      rcases tm with rfl | rfl | rfl | rfl | rfl | rfl | rfl <;> exact ⟨_, rfl, by decide, by decide⟩
    have tb : 0 < t ∧ t < 2 ^ 60 := ⟨t0.1, by omega⟩
    walk_at "rd"
    refine r_new (by show 2 ≤ 1000; decide) fun p1 q1 => ?_
    have S3 := S2.tup (a := 1) (b := 1) q1 (by decide) (by decide)
    walk_at "rd"
    refine r_new (by show 2 ≤ 1000; decide) fun p2 q2 => ?_
    have S4 := S3.tup (a := 1) (b := t) q2 (by decide) tb
    walk_at "rd"
    refine r_new (by show 2 ≤ 1000; decide) fun p3 q3 => ?_
    have S5 := S4.tup (a := t) (b := 1) q3 tb (by decide)
    walk_at "rd"
    refine r_new (by show 2 ≤ 1000; decide) fun p4 q4 => ?_
    have S6 := S5.tup (a := 1) (b := 8) q4 (by decide) (by decide)
    walk_at "rd"
    refine r_new (by show 2 ≤ 1000; decide) fun p5 q5 => ?_
    have S7 := S6.tup (a := 1) (b := 3) q5 (by decide) (by decide)
    walk_at "rd"
    refine r_new (by show 2 ≤ 1000; decide) fun p6 q6 => ?_
    have S8 := S7.tup (a := 7) (b := 1) q6 (by decide) (by decide)
    walk_at "rd"
    refine rd_draw S8.dk (by decide) (by decide) fun u H3 o3 dk3 u0 u1 => ?_
    have S9 := S8.draw o3 dk3
    walk_at "rd"
    refine rd_draw S9.dk (by decide) (by decide) fun v H4 o4 dk4 v0 v1 => ?_
    have S10 := S9.draw o4 dk4
    walk_at "rd"
    refine r_new (by show 2 ≤ 1000; decide) fun p7 q7 => ?_
    have S11 := S10.tup (a := 1 + u) (b := 1 + v) q7 (by omega) (by omega)
    walk_at "rd"
    refine r_new (by show 7 ≤ 1000; decide) fun m hm => ?_
    obtain ⟨m1, m2⟩ := fresh_ne S11.dk hm
    have S12 := S11.lst (xs := [.ref p1, .ref p2, .ref p3, .ref p4, .ref p5, .ref p6, .ref p7]) hm
    have M12 : upd (upd H4 p7 (.tup [.int (1 + u), .int (1 + v)])) m (.lst [.ref p1, .ref p2, .ref p3, .ref p4, .ref p5, .ref p6, .ref p7]) m = some (.lst [.ref p1, .ref p2, .ref p3, .ref p4, .ref p5, .ref p6, .ref p7]) := upd_same
    walk_at "rd"
    refine r_new (by show 2 ≤ 1000; decide) fun p8 q8 => ?_
    have S13 := S12.tup (a := 1) (b := 20) q8 (by decide) (by decide)
    have M13 := Same.new (o := .tup [.int 1, .int 20]) q8 _ _ M12
    walk_at "rd"
    refine r_new (by show 2 ≤ 1000; decide) fun p9 q9 => ?_
    have S14 := S13.tup (a := t * 1000) (b := 1) q9 (by omega) (by decide)
    have M14 := Same.new (o := .tup [.int (t * 1000), .int 1]) q9 _ _ M13
    walk_at "rd"
    refine rd_draw S14.dk (by decide) (by decide) fun u' H5 o5 dk5 u0' u1' => ?_
    have S15 := S14.draw o5 dk5
    have M15 := o5 _ _ m1 m2 M14
    walk_at "rd"
    refine rd_draw S15.dk (by decide) (by decide) fun v' H6 o6 dk6 v0' v1' => ?_
    have S16 := S15.draw o6 dk6
    have M16 := o6 _ _ m1 m2 M15
    walk_at "rd"
    refine r_new (by show 2 ≤ 1000; decide) fun p10 q10 => ?_
    have S17 := S16.tup (a := 1 + u') (b := 1 + v') q10 (by have e : (10 : Int) ^ (6 : Int).toNat = 1000000 := rfl; omega) (by have e : (10 : Int) ^ (6 : Int).toNat = 1000000 := rfl; omega)
    have M17 := Same.new (o := .tup [.int (1 + u'), .int (1 + v')]) q10 _ _ M16
    walk_at "rd"
    refine r_new (by show 3 ≤ 1000; decide) fun n hn => ?_
    have S18 := S17.lst (xs := [.ref p8, .ref p9, .ref p10]) hn
    have M18 := Same.new (o := .lst [.ref p8, .ref p9, .ref p10]) hn _ _ M17
    refine ⟨m, n, _, _, rfl, rfl, M18, upd_same, by show 7 + 3 ≤ sizeLine; decide, fun f hf => ?_⟩
    obtain ⟨f1, f2⟩ := fresh_ne S18.dk hf
    have S19 := S18.lst (xs := [.ref p1, .ref p2, .ref p3, .ref p4, .ref p5, .ref p6, .ref p7] ++ [.ref p8, .ref p9, .ref p10]) hf
    walk_at "rd"
    refine rd_draw S19.dk (by decide) (by decide) fun r' H7 o7 dk7 r0' r1' => ?_
    have S20 := S19.draw o7 dk7
    have hF := o7 f _ f1 f2 upd_same
    obtain ⟨g, ag, gm⟩ := atI_mem (xs := [V.ref p1, .ref p2, .ref p3, .ref p4, .ref p5, .ref p6, .ref p7] ++ [V.ref p8, .ref p9, .ref p10]) r0' (by show r' < 10; exact r1')
    refine r_ixL hF ag ?_
    have hg : g ∈ [V.ref p10, .ref p9, .ref p8, .ref p7, .ref p6, .ref p5, .ref p4, .ref p3, .ref p2, .ref p1] := by
      simp only [List.mem_cons, List.cons_append, List.nil_append, List.not_mem_nil, or_false] at gm ⊢
      rcases gm with h | h | h | h | h | h | h | h | h | h <;> simp [h]
    obtain ⟨p, a, b, rfl, hp, ha, hb⟩ := S20.all g hg
    exact k p a b H7 S20.off S20.dk hp ha hb
end
end My

namespace My
open PySem L2
section
variable {P : Program} {w : World} {K : PySem.W.Frag} {mg : Str → Option Value} {base : Heap}
theorem int_of {v : V} {xs : List Int} (h : v ∈ xs.map V.int) : ∃ i, v = .int i ∧ i ∈ xs := by
  obtain ⟨i, hi, rfl⟩ := List.mem_map.mp h
  exact ⟨i, rfl, hi⟩
def spNear : Sp := fun vs H Q _ => ∃ (d c g : Addr) (a b : Int), vs = [.ref d, .ref g] ∧ DeckAt H d c ∧ H g = some (.tup [.int a, .int b]) ∧ (0 < a ∧ a < 2 ^ 60) ∧ (0 < b ∧ b < 2 ^ 60) ∧
  ∀ (p : Addr) (t u : Int) (H' : Hp), Off d c H H' → DeckAt H' d c → H' p = some (.tup [.int t, .int u]) → t.natAbs < 2 ^ 100 → (0 < u ∧ u < 2 ^ 71) → Q (.ref p) H'
theorem ok_l_near (T : Txt w K mg) : FnOk P w K mg base CX0 2 T.f_l_near T.fd_l_near ["_law_deck_here", "_law_grain_here"] spNear := by
  refine T.F_l_near.ok sc_l_near (fun vs H Q E h => ?_) (fun cdv A outer s H vs Q E hr h => ?_)
  · obtain ⟨d, c, g, a, b, rfl, _⟩ := h
    rfl
  · obtain ⟨d, c, g, a, b, rfl, dk, hg, ha, hb, k⟩ := h
    refine ⟨_, (pss_cons (ps_set (i := 2) sc_l_near.nd rfl (Or.inl rfl) (pe_lst (pa_cons (pe_call (ok_l_draw T) (hr.mono (by decide)) (by rfl) T.m_l_draw T.F_l_draw.kp T.b_l_draw .nil pass0 (pa_cons (pv 0) (pa_cons pe_int pa_nil))) (pa_cons (pe_op op_add pe_int (pe_call (ok_l_draw T) (hr.mono (by decide)) (by rfl) T.m_l_draw T.F_l_draw.kp T.b_l_draw .nil pass0 (pa_cons (pv 0) (pa_cons pe_int pa_nil)))) (pa_cons (pe_op op_add pe_int (pe_call (ok_l_draw T) (hr.mono (by decide)) (by rfl) T.m_l_draw T.F_l_draw.kp T.b_l_draw .nil pass0 (pa_cons (pv 0) (pa_cons pe_int pa_nil)))) (pa_cons pe_int (pa_cons (pe_call (ok_l_draw T) (hr.mono (by decide)) (by rfl) T.m_l_draw T.F_l_draw.kp T.b_l_draw .nil pass0 (pa_cons (pv 0) (pa_cons (pe_op op_pow pe_int pe_int) pa_nil))) pa_nil)))))))
 (pss_cons (ps_set (i := 3) sc_l_near.nd rfl (Or.inl rfl) (pe_op op_mulW (pe_ix ix_list (pv 2) (pe_call (ok_l_draw T) (hr.mono (by decide)) (by rfl) T.m_l_draw T.F_l_draw.kp T.b_l_draw .nil pass0 (pa_cons (pv 0) (pa_cons pe_int pa_nil))) (fun _ _ => rfl)) (pe_ix ix_list (pe_lst (pa_cons pe_int (pa_cons (pe_un un_neg pe_int) pa_nil))) (pe_call (ok_l_draw T) (hr.mono (by decide)) (by rfl) T.m_l_draw T.F_l_draw.kp T.b_l_draw .nil pass0 (pa_cons (pv 0) (pa_cons pe_int pa_nil))) (fun _ _ => rfl))))
 (pss_cons (ps_set (i := 4) sc_l_near.nd rfl (Or.inl rfl) (pe_ix ix_list (pe_lst (pa_cons pe_int (pa_cons pe_int (pa_cons pe_int (pa_cons pe_int (pa_cons pe_int (pa_cons pe_int pa_nil))))))) (pe_call (ok_l_draw T) (hr.mono (by decide)) (by rfl) T.m_l_draw T.F_l_draw.kp T.b_l_draw .nil pass0 (pa_cons (pv 0) (pa_cons pe_int pa_nil))) (fun _ _ => rfl)))
 (pss_cons (ps_set (i := 5) sc_l_near.nd rfl (Or.inl rfl) (pe_op op_fdiv (pv 4) pe_int))
 (pss_cons (ps_set (i := 6) sc_l_near.nd rfl (Or.inl rfl) (pe_ix ix_list (pe_lst (pa_cons pe_int (pa_cons (pv 5) (pa_cons (pe_callB (call_max2 rfl) (by rfl) T.n_max (by decide +kernel) (pa_cons pe_int (pa_cons (pe_op op_sub (pv 5) pe_int) pa_nil))) (pa_cons (pe_op op_add (pv 5) pe_int) (pa_cons pe_int (pa_cons (pe_op op_sub (pv 4) pe_int) (pa_cons (pe_call (ok_l_draw T) (hr.mono (by decide)) (by rfl) T.m_l_draw T.F_l_draw.kp T.b_l_draw .nil pass0 (pa_cons (pv 0) (pa_cons (pv 4) pa_nil))) pa_nil)))))))) (pe_call (ok_l_draw T) (hr.mono (by decide)) (by rfl) T.m_l_draw T.F_l_draw.kp T.b_l_draw .nil pass0 (pa_cons (pv 0) (pa_cons pe_int pa_nil))) (fun _ _ => rfl)))
 (pss_one (ps_ret (pe_tup (pa_cons (pe_op op_mulW (pe_ix ix_tup (pv 1) pe_int (fun _ _ => rfl)) (pe_op op_add (pe_op op_mulW (pv 3) (pv 4)) (pe_op op_mod (pv 6) (pv 4)))) (pa_cons (pe_op op_mulW (pe_ix ix_tup (pv 1) pe_int (fun _ _ => rfl)) (pv 4)) pa_nil)))))))))), ?_⟩
    walk_at "rdg"
    refine rd_draw dk (by decide) (by decide) fun e1 H1 o1 dk1 e10 e11 => ?_
    walk_at "rdg"
    refine rd_draw dk1 (by decide) (by decide) fun e2 H2 o2 dk2 e20 e21 => ?_
    walk_at "rdg"
    refine rd_draw dk2 (by decide) (by decide) fun e3 H3 o3 dk3 e30 e31 => ?_
    walk_at "rdg"
    refine rd_draw dk3 (by decide) (by decide) fun e4 H4 o4 dk4 e40 e41 => ?_
    have o04 := ((o1.trans o2).trans o3).trans o4
    walk_at "rdg"
    refine r_new (by show 5 ≤ 1000; decide) fun l hl => ?_
    obtain ⟨l1, l2⟩ := fresh_ne dk4 hl
    have sl := Same.new (o := .lst [.int e1, .int (9 + e2), .int (99 + e3), .int 999, .int e4]) hl
    walk_at "rdg"
    refine rd_draw (dk4.same sl) (by decide) (by decide) fun e5 H5 o5 dk5 e50 e51 => ?_
    have hL := o5 l _ l1 l2 upd_same
    obtain ⟨v, av, vm⟩ := atI_mem (xs := [V.int e1, .int (9 + e2), .int (99 + e3), .int 999, .int e4]) e50 e51
    refine r_ixL hL av ?_
    obtain ⟨i, rfl, hi⟩ : ∃ i : Int, v = .int i ∧ (0 ≤ i ∧ i < 2 ^ 20) := by
      have e9 : (10 : Int) ^ (6 : Int).toNat = 1000000 := rfl
      obtain ⟨i, rfl, hi⟩ := int_of (xs := [e1, 9 + e2, 99 + e3, 999, e4]) vm
      refine ⟨i, rfl, ?_⟩
      simp only [List.mem_cons, List.not_mem_nil, or_false] at hi
      omega
    have o05 := (o04.trans (Off.of sl)).trans o5
    walk_at "rdg"
    refine r_new (by show 2 ≤ 1000; decide) fun m hm => ?_
    obtain ⟨m1, m2⟩ := fresh_ne dk5 hm
    have sm := Same.new (o := .lst [.int 1, .int (-1)]) hm
    walk_at "rdg"
    refine rd_draw (dk5.same sm) (by decide) (by decide) fun e6 H6 o6 dk6 e60 e61 => ?_
    have hM := o6 m _ m1 m2 upd_same
    obtain ⟨v, av, vm⟩ := atI_mem (xs := [V.int 1, .int (-1)]) e60 e61
    refine r_ixL hM av ?_
    obtain ⟨sg, rfl, hs⟩ : ∃ sg : Int, v = .int sg ∧ (sg = 1 ∨ sg = -1) := by
      obtain ⟨i, rfl, hi⟩ := int_of (xs := [1, -1]) vm
      refine ⟨i, rfl, ?_⟩
      simpa using hi
    have o06 := (o05.trans (Off.of sm)).trans o6
    walk_at "rdg"
    refine r_I (wide_mul (a := 20) (b := 2) (by omega) (by omega) (by decide) (by decide) (by decide)) ?_
    walk_at "rdg"
    have cb : (i * sg).natAbs < 2 ^ 22 := natAbs_mul_lt (m := 20) (n := 2) (by omega) (by omega) (by decide)
    generalize i * sg = n at *
    refine r_new (by show 6 ≤ 1000; decide) fun l2' hl2 => ?_
    obtain ⟨q1, q2⟩ := fresh_ne dk6 hl2
    have s2 := Same.new (o := .lst [.int 1, .int 2, .int 4, .int 3, .int 10, .int 1000]) hl2
    walk_at "rdg"
    refine rd_draw (dk6.same s2) (by decide) (by decide) fun e7 H7 o7 dk7 e70 e71 => ?_
    have hL2 := o7 l2' _ q1 q2 upd_same
    obtain ⟨v, av, vm⟩ := atI_mem (xs := [V.int 1, .int 2, .int 4, .int 3, .int 10, .int 1000]) e70 e71
    refine r_ixL hL2 av ?_
    obtain ⟨p, rfl, hp⟩ : ∃ p : Int, v = .int p ∧ (0 < p ∧ p ≤ 1000) := by
      obtain ⟨i, rfl, hi⟩ := int_of (xs := [1, 2, 4, 3, 10, 1000]) vm
      refine ⟨i, rfl, ?_⟩
      simp only [List.mem_cons, List.not_mem_nil, or_false] at hi
      omega
    have o07 := (o06.trans (Off.of s2)).trans o7
    walk_at "rdg"
    refine ⟨_, _, rfl, ?_⟩
    walk_at "rdg"
    refine rd_draw dk7 hp.1 (Nat.lt_of_lt_of_le (by omega : p.natAbs < 2 ^ 10) (by decide)) fun e8 H8 o8 dk8 e80 e81 => ?_
    walk_at "rdg"
    refine r_new (by show 7 ≤ 1000; decide) fun l3 hl3 => ?_
    obtain ⟨z1, z2⟩ := fresh_ne dk8 hl3
    have s3 := Same.new (o := .lst [.int 0, .int (p / 2), .int (if p / 2 - 1 > 0 then p / 2 - 1 else 0), .int (p / 2 + 1), .int 1, .int (p - 1), .int e8]) hl3
    walk_at "rdg"
    refine rd_draw (dk8.same s3) (by decide) (by decide) fun e9 H9 o9 dk9 e90 e91 => ?_
    have hL3 := o9 l3 _ z1 z2 upd_same
    obtain ⟨v, av, vm⟩ := atI_mem (xs := [V.int 0, .int (p / 2), .int (if p / 2 - 1 > 0 then p / 2 - 1 else 0), .int (p / 2 + 1), .int 1, .int (p - 1), .int e8]) e90 e91
    refine r_ixL hL3 av ?_
    obtain ⟨r, rfl, _⟩ := int_of (xs := [0, p / 2, if p / 2 - 1 > 0 then p / 2 - 1 else 0, p / 2 + 1, 1, p - 1, e8]) vm
    have o09 := ((o07.trans o8).trans (Off.of s3)).trans o9
    have hg9 := o09.keep dk hg (fun _ z => by cases z)
    walk_at "rdg"
    refine r_ixT hg9 (atI_nat (j := 0) rfl) ?_
    walk_at "rdg"
    refine r_I (wide_mul (a := 22) (b := 10) cb (by omega) (by decide) (by decide) (by decide)) ?_
    walk_at "rdg"
    refine r_I hp.1 ?_
    have np : (n * p).natAbs < 2 ^ 32 := natAbs_mul_lt (m := 22) (n := 10) cb (by omega) (by decide)
    have rp : 0 ≤ r % p ∧ r % p < p := ⟨Int.emod_nonneg _ (by omega), Int.emod_lt_of_pos _ hp.1⟩
    have npr : (n * p + r % p).natAbs < 2 ^ 33 := by omega
    walk_at "rdg"
    refine r_I (wide_mul (a := 60) (b := 33) (by omega) npr (by decide) (by decide) (by decide)) ?_
    walk_at "rdg"
    refine r_ixT hg9 (atI_nat (j := 1) rfl) ?_
    walk_at "rdg"
    refine r_I (wide_mul (a := 60) (b := 10) (by omega) (by omega) (by decide) (by decide) (by decide)) ?_
    walk_at "rdg"
    refine r_new (by show 2 ≤ 1000; decide) fun pp hpp => ?_
    have bp : (b * p).natAbs < 2 ^ 70 := natAbs_mul_lt (m := 60) (n := 10) (by omega) (by omega) (by decide)
    refine k pp _ _ _ (o09.trans (Off.of (Same.new hpp))) (dk9.same (Same.new hpp)) upd_same (natAbs_mul_lt (m := 60) (n := 33) (by omega) npr (by decide)) ⟨Int.mul_pos hb.1 hp.1, by omega⟩
end
end My

namespace My
open PySem L2
section
variable {P : Program} {w : World} {K : PySem.W.Frag} {mg : Str → Option Value} {base : Heap}
theorem no_over (q : Rat) : (nf q).lookup ("over" : Str) = none := nf_no _ (by decide +kernel) (by decide +kernel)
theorem no_less (q : Rat) : (nf q).lookup ("less" : Str) = none := nf_no _ (by decide +kernel) (by decide +kernel)
theorem no_times (q : Rat) : (nf q).lookup ("times" : Str) = none := nf_no _ (by decide +kernel) (by decide +kernel)
theorem no_floor (q : Rat) : (nf q).lookup ("floor" : Str) = none := nf_no _ (by decide +kernel) (by decide +kernel)
def spPlace (C : Addr) : Sp := fun vs H Q _ => ∃ (p s : Addr) (x y : Rat), vs = [.ref p, .ref s] ∧ NumAt C H p x ∧ NumAt C H s y ∧ Bd 900 x ∧ Bd 900 y ∧ y ≠ 0 ∧
  ∀ (t pp : Addr) (H' : Hp), Same H H' → H' t = some (.tup [.int (x / y).floor, .int (highQ (x / y)), .ref pp]) → NumAt C H' pp (partQ (x / y)) → Q (.ref t) H'
theorem ok_place_of (T : Txt w K mg) : FnOk P w K mg base CX0 4 T.f_place_of T.fd_place_of ["number", "step"] (spPlace T.C_Number) := by
  refine T.F_place_of.ok sc_place_of (fun vs H Q E h => ?_) (fun cdv A outer s H vs Q E hr h => ?_)
  · obtain ⟨p, q, x, y, rfl, _⟩ := h
    rfl
  · obtain ⟨p, q, x, y, rfl, ⟨dx, hp⟩, ⟨dy, hq⟩, bx, by', y0, k⟩ := h
    have cN := T.c_Number
    have nT := T.n_Number_top
    have nB := T.n_Number_bottom
    have bn : Bd 1800 (x / y) := Bd.div bx by' y0
    have bf : Bd 1800 ((x / y).floor : Rat) := Bd.int (floor_bd bn) (by decide)
    refine ⟨_, (pss_cons (ps_set (i := 2) sc_place_of.nd rfl (Or.inl rfl) (pe_meth (pv 0) T.c_Number T.me_Number_over (ok_Number_over T) (hr.mono (by decide)) T.b_Number_over .nil pass0 (pa_cons (pv 1) pa_nil)))
 (pss_cons (ps_set (i := 3) sc_place_of.nd rfl (Or.inl rfl) (pe_meth0 (pv 2) T.c_Number T.me_Number_floor (ok_Number_floor T) (hr.mono (by decide)) T.b_Number_floor .nil pass0))
 (pss_cons (ps_set (i := 4) sc_place_of.nd rfl (Or.inl rfl) (pe_meth (pv 2) T.c_Number T.me_Number_less (ok_Number_less T) (hr.mono (by decide)) T.b_Number_less .nil pass0 (pa_cons (pe_make T.mk_Number (ok_Number_init T) (hr.mono (by decide)) (by rfl) T.m_Number T.b_Number_init1 T.d_Number_init1 pass0 (pa_cons (pv 3) pa_nil)) pa_nil)))
 (pss_cons (ps_set (i := 5) sc_place_of.nd rfl (Or.inl rfl) (pe_ifExp (pt_cmpR op_eq (pe_fld (pv 4) rfl) pe_int (nomark _)) (pv 3) (pe_op op_add (pv 3) pe_int)))
 (pss_one (ps_ret (pe_tup (pa_cons (pv 3) (pa_cons (pv 5) (pa_cons (pv 4) pa_nil)))))))))), ?_⟩
    walk_at "rdf"
    refine r_meth1 hp (no_over _) ?_
    walk_at "rdf"
    refine ⟨p, q, x, y, rfl, ⟨_, hp⟩, ⟨_, hq⟩, bx.mono (by decide), by'.mono (by decide), y0, fun r H1 s1 n1 h1 => ?_⟩
    obtain ⟨dr, hr1⟩ := h1
    walk_at "rdf"
    refine r_meth1 hr1 (no_floor _) ?_
    walk_at "rdf"
    refine ⟨r, x / y, rfl, ⟨_, hr1⟩, bn.mono (by decide), ?_⟩
    walk_at "rdf"
    refine r_meth1 hr1 (no_less _) ?_
    walk_at "rdf"
    refine mk_num1 fun u H2 s2 n2 h2 => ?_
    walk_at "rdf"
    refine ⟨r, u, x / y, ((x / y).floor : Rat), rfl, ⟨_, s2 _ _ hr1⟩, h2, bn.mono (by decide), bf.mono (by decide), trivial, fun pp H3 s3 n3 h3 => ?_⟩
    obtain ⟨dp, hp3⟩ := h3
    have s03 : Same H H3 := (s1.trans s2).trans s3
    walk_at "rdf"
    refine r_ite (fun e => ?_) (fun e => ?_)
    · have e' : highQ (x / y) = (x / y).floor := by
        unfold highQ
        exact if_pos (of_decide_eq_true e)
      walk_at "rdf"
      refine r_new (by show 3 ≤ 1000; decide) fun t ht => ?_
      exact k t pp _ (s03.trans (Same.new ht)) (by rw [upd_same, e']) ⟨dp, by rw [upd_ne (ne_of_none hp3 ht)]; exact hp3⟩
    · have e' : highQ (x / y) = (x / y).floor + 1 := by
        unfold highQ
        exact if_neg (of_decide_eq_false e)
      walk_at "rdf"
      refine r_new (by show 3 ≤ 1000; decide) fun t ht => ?_
      exact k t pp _ (s03.trans (Same.new ht)) (by rw [upd_same, e']) ⟨dp, by rw [upd_ne (ne_of_none hp3 ht)]; exact hp3⟩
end
end My

namespace My
open PySem L2 TL
section
variable {σ : L2.St} {H : Hp} {Q : VK} {x : V} {to te : TE}
theorem r_m0 {r : V → List V → Hp → VK → Prop} (q : to σ H fun x H1 => (∃ a, x = .str a) ∧ r x [] H1 Q) : tM0 r to σ H Q := q
theorem r_tj {t : TE} {ts : List TE} {acc : Str} {QJ : Str → Hp → Prop} (q : t σ H fun x H1 => ∃ y : Str, x = .str y ∧ (acc ++ y).length ≤ sizeLine ∧ tJs ts (acc ++ y) σ H1 QJ) : tJs (t :: ts) acc σ H QJ := q
theorem r_tj0 {acc : Str} {QJ : Str → Hp → Prop} (q : QJ acc H) : tJs [] acc σ H QJ := q
theorem r_fmt (q : te σ H fun x H1 => (∃ y : Str, x = .str y ∧ y.length ≤ sizeLine ∧ Q (.str y) H1) ∨ ∃ i : Int, x = .int i ∧ i.natAbs.log2 < 1920 ∧ Q (.str (toString i)) H1) : tFmt te σ H Q := q
end
theorem bits1920 {i : Int} (h : i.natAbs < 2 ^ 900) : i.natAbs.log2 < 1920 := Nat.lt_of_lt_of_le (PySem.Flt.log2_lt_of (by decide) h) (by decide)
theorem TI_short {i : Int} (h : i.natAbs < 2 ^ 900) : (TI i).length ≤ 2000 := Nat.le_trans (PyProof.Rows.int_text_len_1921 (bits1920 h)) (by decide)
end My

namespace My
open PySem L2 TL
section
variable {P : Program} {w : World} {K : PySem.W.Frag} {mg : Str → Option Value} {base : Heap}
/-- what repr tells of a Number -/
def RText (x : Rat) : Str := Str.empty ++ "Number(" ++ TI x.num ++ ", " ++ TI (x.den : Int) ++ ")"
theorem RText_len {x : Rat} (bx : Bd 900 x) : (RText x).length ≤ 10000 := by
  have l1 := TI_short bx.1
  have l2 := TI_short (bd_den bx)
  unfold RText
  have e1 : ("Number(" : Str).length = 7 := rfl
  have e2 : (", " : Str).length = 2 := rfl
  have e3 : (")" : Str).length = 1 := rfl
  have e0 : Str.empty.length = 0 := rfl
  simp only [Str.length_append, e0, e1, e2, e3]
  omega
def spRepr (C : Addr) : Sp := fun vs H Q _ => ∃ (p : Addr) (x : Rat), vs = [.ref p] ∧ NumAt C H p x ∧ Bd 900 x ∧ Q (.str (RText x)) H
theorem ok_Number_repr (T : Txt w K mg) : FnOk P w K mg base CX0 1 T.f_Number_repr T.fd_Number_repr ["self"] (spRepr T.C_Number) := by
  refine T.F_Number_repr.ok sc_Number_repr (fun vs H Q E h => ?_) (fun cdv A outer s H vs Q E hr h => ?_)
  · obtain ⟨p, x, rfl, _⟩ := h
    rfl
  · obtain ⟨p, x, rfl, ⟨dx, hp⟩, bx, k⟩ := h
    have cN := T.c_Number
    have nT := T.n_Number_top
    have nB := T.n_Number_bottom
    refine ⟨_, (pss_one (ps_ret (pe_joined (.cons pe_str (.cons (pe_fmt (pe_fld (pv 0) rfl)) (.cons pe_str (.cons (pe_fmt (pe_fld (pv 0) rfl)) (.cons pe_str .nil)))))))), ?_⟩
    have l1 := TI_short bx.1
    have l2 := TI_short (bd_den bx)
    have sl : sizeLine = 16777216 := rfl
    have e1 : ("Number(" : Str).length = 7 := rfl
    have e2 : (", " : Str).length = 2 := rfl
    have e3 : (")" : Str).length = 1 := rfl
    have e0 : Str.empty.length = 0 := rfl
    walk_at "rdf"
    refine r_tj ?_
    walk_at "rdf"
    refine ⟨_, rfl, by simp only [Str.length_append, e0, e1]; omega, ?_⟩
    refine r_tj (r_fmt ?_)
    walk_at "rdf"
    refine .inr ⟨_, rfl, bits1920 bx.1, ?_⟩
    refine ⟨TI x.num, rfl, by simp only [Str.length_append, e0, e1]; omega, ?_⟩
    refine r_tj ?_
    walk_at "rdf"
    refine ⟨_, rfl, by simp only [Str.length_append, e0, e1, e2]; omega, ?_⟩
    refine r_tj (r_fmt ?_)
    walk_at "rdf"
    refine .inr ⟨_, rfl, bits1920 (bd_den bx), ?_⟩
    refine ⟨TI (x.den : Int), rfl, by simp only [Str.length_append, e0, e1, e2]; omega, ?_⟩
    refine r_tj ?_
    walk_at "rdf"
    refine ⟨_, rfl, by simp only [Str.length_append, e0, e1, e2, e3]; omega, ?_⟩
    refine r_tj0 ?_
    exact k
/-- repr of two Numbers, as it is read -/
theorem rd_repr2 {C : Addr} {K : PySem.W.Frag} {H : Hp} {p a b : Addr} {x y : Rat} {Q : VK} (hp : H p = some (.tup [.ref a, .ref b])) (ha : NumAt C H a x) (hb : NumAt C H b y) (bx : Bd 900 x) (by' : Bd 900 y) (q : Q (.str (tupleText [RText x, RText y])) H) : rRepr2 C K (spRepr C) [.ref p] H Q := by
  obtain ⟨dx, ea⟩ := ha
  obtain ⟨dy, eb⟩ := hb
  exact ⟨p, a, b, dx, dy, _, _, RText x, RText y, rfl, SqT.of hp, ea, eb, RText_len bx, RText_len by', fun R r => ⟨a, x, rfl, ⟨dx, ea⟩, bx, r⟩, fun R r => ⟨b, y, rfl, ⟨dy, eb⟩, by', r⟩, q⟩
end
end My

namespace My
open PySem L2
section
variable {P : Program} {w : World} {K : PySem.W.Frag} {mg : Str → Option Value} {base : Heap}
theorem floor_bd900 {x y : Rat} (bx : Bd 900 x) (by' : Bd 900 y) (y0 : y ≠ 0) : (x / y).floor.natAbs < 2 ^ 1800 ∧ (highQ (x / y)).natAbs < 2 ^ 1801 := by
  have bn : Bd 1800 (x / y) := Bd.div bx by' y0
  have h := floor_bd bn
  refine ⟨h, ?_⟩
  have e : (2 : Nat) ^ 1801 = 2 ^ 1800 * 2 := Nat.pow_succ ..
  have p : 0 < (2 : Nat) ^ 1800 := Nat.two_pow_pos _
  unfold highQ
  split
  · rw [e]; omega
  · rw [e]; omega
def spNeigh (C : Addr) : Sp := fun vs H Q _ => ∃ (p s : Addr) (x y : Rat), vs = [.ref p, .ref s] ∧ NumAt C H p x ∧ NumAt C H s y ∧ Bd 900 x ∧ Bd 900 y ∧ y ≠ 0 ∧
  ∀ (t u v : Addr) (H' : Hp), Same H H' → H' t = some (.tup [.ref u, .ref v]) → NumAt C H' u (y * ((x / y).floor : Rat)) → NumAt C H' v (y * (highQ (x / y) : Rat)) → Q (.ref t) H'
theorem ok_neighbours (T : Txt w K mg) : FnOk P w K mg base CX0 5 T.f_neighbours T.fd_neighbours ["number", "step"] (spNeigh T.C_Number) := by
  refine T.F_neighbours.ok sc_neighbours (fun vs H Q E h => ?_) (fun cdv A outer s H vs Q E hr h => ?_)
  · obtain ⟨p, q, x, y, rfl, _⟩ := h
    rfl
  · obtain ⟨p, q, x, y, rfl, ⟨dx, hp⟩, ⟨dy, hq⟩, bx, by', y0, k⟩ := h
    refine ⟨_, (pss_cons (ps_asg (pe_call (ok_place_of T) (hr.mono (by decide)) (by rfl) T.m_place_of T.F_place_of.kp T.b_place_of .nil pass0 (pa_cons (pv 0) (pa_cons (pv 1) pa_nil))) (pg_tup rfl (pgs_cons (pg_name (i := 2) sc_neighbours.nd rfl (Or.inl rfl)) (pgs_cons (pg_name (i := 3) sc_neighbours.nd rfl (Or.inl rfl)) (pgs_cons (pg_name (i := 4) sc_neighbours.nd rfl (Or.inl rfl)) pgs_nil)))))
 (pss_one (ps_ret (pe_tup (pa_cons (pe_meth (pv 1) T.c_Number T.me_Number_times (ok_Number_times T) (hr.mono (by decide)) T.b_Number_times .nil pass0 (pa_cons (pe_make T.mk_Number (ok_Number_init T) (hr.mono (by decide)) (by rfl) T.m_Number T.b_Number_init1 T.d_Number_init1 pass0 (pa_cons (pv 2) pa_nil)) pa_nil)) (pa_cons (pe_meth (pv 1) T.c_Number T.me_Number_times (ok_Number_times T) (hr.mono (by decide)) T.b_Number_times .nil pass0 (pa_cons (pe_make T.mk_Number (ok_Number_init T) (hr.mono (by decide)) (by rfl) T.m_Number T.b_Number_init1 T.d_Number_init1 pass0 (pa_cons (pv 3) pa_nil)) pa_nil)) pa_nil)))))), ?_⟩
    obtain ⟨fb, hb⟩ := floor_bd900 bx by' y0
    walk_at "rdg"
    refine ⟨p, q, x, y, rfl, ⟨_, hp⟩, ⟨_, hq⟩, bx, by', y0, fun t pp H1 s1 h1 hpp => ?_⟩
    refine r_gTup h1 rfl ?_
    walk_at "rdg"
    refine r_meth1 (s1 _ _ hq) (no_times _) ?_
    walk_at "rdg"
    refine mk_num1 fun u H2 s2 n2 h2 => ?_
    walk_at "rdg"
    refine ⟨q, u, y, ((x / y).floor : Rat), rfl, ⟨_, s2 _ _ (s1 _ _ hq)⟩, h2, by'.mono (by decide), (Bd.int fb (by decide)).mono (by decide), trivial, fun a H3 s3 n3 h3 => ?_⟩
    walk_at "rdg"
    have s13 := (s1.trans s2).trans s3
    refine r_meth1 (s13 _ _ hq) (no_times _) ?_
    walk_at "rdg"
    refine mk_num1 fun v H4 s4 n4 h4 => ?_
    walk_at "rdg"
    refine ⟨q, v, y, (highQ (x / y) : Rat), rfl, ⟨_, s4 _ _ (s13 _ _ hq)⟩, h4, by'.mono (by decide), (Bd.int hb (by decide)).mono (by decide), trivial, fun b H5 s5 n5 h5 => ?_⟩
    walk_at "rdg"
    refine r_new (by show 2 ≤ 1000; decide) fun tp htp => ?_
    have s6 := Same.new (o := .tup [.ref a, .ref b]) htp
    exact k tp a b _ (((s13.trans s4).trans s5).trans s6) upd_same (((h3.same s4).same s5).same s6) (h5.same s6)
end
end My

namespace My
open PySem L2
section
variable {P : Program} {w : World} {K : PySem.W.Frag} {mg : Str → Option Value} {base : Heap}
def spSteps : Sp := fun vs H Q _ => ∃ (n g : Addr) (t b c d : Int), vs = [.ref n, .ref g] ∧ H n = some (.tup [.int t, .int b]) ∧ H g = some (.tup [.int c, .int d]) ∧ t.natAbs < 2 ^ 120 ∧ (0 < b ∧ b < 2 ^ 71) ∧ (0 < c ∧ c < 2 ^ 122) ∧ (0 < d ∧ d < 2 ^ 210) ∧
  ∀ (p : Addr) (H' : Hp), Same H H' → H' p = some (.tup [.int (t * d / (b * c)), .int (t * d - t * d / (b * c) * (b * c)), .int (b * c)]) → Q (.ref p) H'
theorem ok_l_steps (T : Txt w K mg) : FnOk P w K mg base CX0 1 T.f_l_steps T.fd_l_steps ["_law_number", "_law_grain_here"] spSteps := by
  refine T.F_l_steps.ok sc_l_steps (fun vs H Q E h => ?_) (fun cdv A outer s H vs Q E hr h => ?_)
  · obtain ⟨n, g, t, b, c, d, rfl, _⟩ := h
    rfl
  · obtain ⟨n, g, t, b, c, d, rfl, hn, hg, ht, hb, hc, hd, k⟩ := h
    refine ⟨_, (pss_cons (ps_par (i := 2) (j := 3) rfl sc_l_steps.nd rfl rfl (by decide) rfl rfl (pa_cons (pe_op op_mulW (pe_ix ix_tup (pv 0) pe_int (fun _ _ => rfl)) (pe_ix ix_tup (pv 1) pe_int (fun _ _ => rfl))) (pa_cons (pe_op op_mulW (pe_ix ix_tup (pv 0) pe_int (fun _ _ => rfl)) (pe_ix ix_tup (pv 1) pe_int (fun _ _ => rfl))) pa_nil)) (by rfl))
 (pss_cons (ps_set (i := 4) sc_l_steps.nd rfl (Or.inl rfl) (pe_op op_fdivW (pv 2) (pv 3)))
 (pss_one (ps_ret (pe_tup (pa_cons (pv 4) (pa_cons (pe_op op_sub (pv 2) (pe_op op_mulW (pv 4) (pv 3))) (pa_cons (pv 3) pa_nil)))))))), ?_⟩
    have td : (t * d).natAbs < 2 ^ 330 := natAbs_mul_lt (m := 120) (n := 210) ht (by omega) (by decide)
    have bc : (b * c).natAbs < 2 ^ 193 := natAbs_mul_lt (m := 71) (n := 122) (by omega) (by omega) (by decide)
    have bc0 : 0 < b * c := Int.mul_pos hb.1 hc.1
    walk_at "rdg"
    refine r_ixT hn (atI_nat (j := 0) rfl) ?_
    walk_at "rdg"
    refine r_ixT hg (atI_nat (j := 1) rfl) ?_
    refine r_I (wide_mul (a := 120) (b := 210) ht (by omega) (by decide) (by decide) (by decide)) ?_
    walk_at "rdg"
    refine r_ixT hn (atI_nat (j := 1) rfl) ?_
    walk_at "rdg"
    refine r_ixT hg (atI_nat (j := 0) rfl) ?_
    refine r_I (wide_mul (a := 71) (b := 122) (by omega) (by omega) (by decide) (by decide) (by decide)) ?_
    walk_at "rdg"
    refine r_I (wide_div bc0 (lt9000 (Nat.lt_of_lt_of_le bc (by decide))) (by decide) (Nat.le_refl _)) ?_
    walk_at "rdg"
    have qb : (t * d / (b * c)).natAbs < 2 ^ 330 := Nat.lt_of_le_of_lt (Int.natAbs_ediv_le_natAbs _ _) td
    refine r_I (wide_mul (a := 330) (b := 193) qb bc (by decide) (by decide) (by decide)) ?_
    walk_at "rdg"
    refine r_new (by show 3 ≤ 1000; decide) fun p hp => ?_
    exact k p _ (Same.new hp) upd_same
end
end My

namespace My
open PySem L2
section
variable {P : Program} {w : World} {K : PySem.W.Frag} {mg : Str → Option Value} {base : Heap}
def spAs : Sp := fun vs H Q _ => ∃ (t b : Int), vs = [.int t, .int b] ∧ 0 < b ∧ b.natAbs < 2 ^ 1900 ∧ t.natAbs < 2 ^ 1900 ∧ ∀ (p : Addr) (H' : Hp), Same H H' → H' p = some (.tup [.int (Rat.divInt t b).num, .int ((Rat.divInt t b).den : Int)]) → Q (.ref p) H'
theorem ok_l_as (T : Txt w K mg) : FnOk P w K mg base CX0 1 T.f_l_as T.fd_l_as ["_law_top", "_law_bottom"] spAs := by
  refine T.F_l_as.ok sc_l_as (fun vs H Q E h => ?_) (fun cdv A outer s H vs Q E hr h => ?_)
  · obtain ⟨t, b, rfl, _⟩ := h
    rfl
  · obtain ⟨t, b, rfl, hb, bb, tb, k⟩ := h
    refine ⟨_, (pss_cons (ps_par (i := 2) (j := 3) rfl sc_l_as.nd rfl rfl (by decide) rfl rfl (pa_cons (pe_callB call_abs (by rfl) T.n_abs (by decide +kernel) (pa_cons (pv 0) pa_nil)) (pa_cons (pv 1) pa_nil)) (by rfl))
 (pss_cons (ps_while PassesOwn.never (pt_cmpR op_gt (pv 3) pe_int (nomark _))
  (pss_one (ps_par (i := 2) (j := 3) rfl sc_l_as.nd rfl rfl (by decide) rfl rfl (pa_cons (pv 3) (pa_cons (pe_op op_mod (pv 2) (pv 3)) pa_nil)) (by rfl))))
 (pss_one (ps_ret (pe_tup (pa_cons (pe_op op_fdivW (pv 0) (pv 2)) (pa_cons (pe_op op_fdivW (pv 1) (pv 2)) pa_nil))))))), ?_⟩
    walk_at "rdh"
    refine ⟨_, rfl, ?_⟩
    walk_at "rdh"
    refine ⟨fun m σ H' => ∃ (i j : Nat), σ = [some (.int t), some (.int b), some (.int (i : Int)), some (.int (j : Int))] ∧ H' = H ∧ Nat.gcd i j = Nat.gcd t.natAbs b.natAbs ∧ j < 2 ^ 1900 ∧ m = j, ⟨b.natAbs, t.natAbs, b.natAbs, ?_, rfl, rfl, bb, rfl⟩, ?_⟩
    · have e1 : (if t < 0 then -t else t) = (t.natAbs : Int) := by split <;> omega
      have e2 : (b.natAbs : Int) = b := by omega
      rw [e1, e2]
      rfl
    · rintro m σ H' ⟨i, j, rfl, rfl, hg, jb, rfl⟩
      walk_at "rdh"
      refine r_ite (fun e => ?_) (fun e => ?_)
      · have jp : 0 < m := by have := of_decide_eq_true e; omega
        refine ⟨fun σ' H2 => σ' = [some (.int t), some (.int b), some (.int (m : Int)), some (.int ((i % m : Nat) : Int))] ∧ H2 = H', ?_, ?_⟩
        · rintro σ' H2 ⟨rfl, rfl⟩
          refine ⟨i % m, Nat.mod_lt _ jp, m, i % m, rfl, rfl, ?_, Nat.lt_trans (Nat.mod_lt _ jp) jb, rfl⟩
          rw [← hg, Nat.gcd_comm i m, Nat.gcd_rec m i, Nat.gcd_comm]
        · walk_at "rdh"
          refine r_I (show (0 : Int) < m by omega) ?_
          walk_at "rdh"
          refine ⟨?_, rfl⟩
          rw [Int.natCast_emod]
          rfl
      · have j0 : m = 0 := by have := of_decide_eq_false e; omega
        subst j0
        rw [Nat.gcd_zero_right] at hg
        have cd : (i : Int) = cdiv t b := by
          unfold cdiv
          rw [if_neg (by omega), hg]
        have gp : 0 < i := by rw [hg]; exact gcd_pos (by omega)
        have gb : (i : Int).natAbs < 2 ^ 1900 := by
          have : i ≤ b.natAbs := by rw [hg]; exact Nat.gcd_le_right _ (by omega)
          exact Nat.lt_of_le_of_lt this bb
        have n := num_of (t := t) (b := b) (by omega)
        have d := den_of (t := t) (b := b) (by omega)
        rw [← cd, Int.fdiv_eq_ediv_of_nonneg _ (by omega)] at n d
        walk_at "rdh"
        refine r_I (wide_div (by omega) (Nat.lt_of_lt_of_le gb (Nat.pow_le_pow_right (by decide) (by decide))) (by decide) (Nat.le_refl _)) ?_
        walk_at "rdh"
        refine r_I (wide_div (by omega) (Nat.lt_of_lt_of_le gb (Nat.pow_le_pow_right (by decide) (by decide))) (by decide) (Nat.le_refl _)) ?_
        walk_at "rdh"
        refine r_new (by show 2 ≤ 1000; decide) fun p hp => ?_
        refine k p _ (Same.new hp) ?_
        rw [upd_same, n, d]
end
section
variable {P : Program} {w : World} {K : PySem.W.Frag} {mg : Str → Option Value} {base : Heap}
def spIs (C : Addr) : Sp := fun vs H Q _ => ∃ (f : Addr) (t b : Int), vs = [.ref f, .int t, .int b] ∧ 0 < b ∧ b.natAbs < 2 ^ 1900 ∧ t.natAbs < 2 ^ 1900 ∧ NumAt C H f (Rat.divInt t b) ∧ ∀ H' : Hp, Same H H' → Q (.bl true) H'
theorem okG_l_is (T : Txt w K mg) : FnG P w K mg base 2 T.f_l_is T.fd_l_is ["_law_found", "_law_top", "_law_bottom"] (spIs T.C_Number) := by
  refine FnG.by_body T.F_l_is sc_l_is (fun vs H Q E h => ?_) (fun cdv A outer s H vs Q E hG hr h => ?_)
  · obtain ⟨f, t, b, rfl, _⟩ := h
    rfl
  · obtain ⟨f, t, b, rfl, hb, bb, tb, ⟨df, hf⟩, k⟩ := h
    have cN := T.c_Number
    have nT := T.n_Number_top
    have nB := T.n_Number_bottom
    refine ⟨_, (pss_one (ps_ret (pe_and (pe_callB call_isi (by rfl) T.n_isinstance (by decide +kernel) (pa_cons (pv 0) (pa_cons (pe_glob (v := .ref T.C_Number) (by rfl) T.m_Number rfl) pa_nil))) (pe_one (pe_cmpR op_eq (pe_callB (call_repr hG hr.units) (by rfl) T.n_repr (by decide +kernel) (pa_cons (pe_tup (pa_cons (pe_fld (pv 0) rfl) (pa_cons (pe_fld (pv 0) rfl) pa_nil))) pa_nil)) (pe_callB (call_repr hG hr.units) (by rfl) T.n_repr (by decide +kernel) (pa_cons (pe_call (ok_l_as T) (hr.mono (by decide)) (by rfl) T.m_l_as T.F_l_as.kp T.b_l_as .nil pass0 (pa_cons (pv 1) (pa_cons (pv 2) pa_nil))) pa_nil)) (nomark _)))))), ?_⟩
    have nb : (Rat.divInt t b).num.natAbs < 2 ^ 1900 := Nat.lt_of_le_of_lt (num_le t b) tb
    have db : ((Rat.divInt t b).den : Int).natAbs < 2 ^ 1900 := Nat.lt_of_le_of_lt (den_le (by omega)) bb
    walk_at "rdh"
    refine is_num T ⟨_, hf⟩ ?_
    walk_at "rdh"
    refine r_iteT rfl ?_
    walk_at "rdf"
    refine r_new (by show 2 ≤ 1000; decide) fun p hp => ?_
    have s1 := Same.new (o := .tup [.int (Rat.divInt t b).num, .int ((Rat.divInt t b).den : Int)]) hp
    refine ⟨p, .tuple [.int (Rat.divInt t b).num, .int ((Rat.divInt t b).den : Int)], rfl, .tup (SqT.of upd_same) (.cons (.int _) (.cons (.int _) .nil)), (data_two nb db).1, (data_two nb db).2.1, (data_two nb db).2.2, short_two nb db, ?_⟩
    walk_at "rdh"
    refine ⟨t, b, rfl, hb, bb, tb, fun p2 H2 s2 h2 => ?_⟩
    refine ⟨p2, .tuple [.int (Rat.divInt t b).num, .int ((Rat.divInt t b).den : Int)], rfl, .tup (SqT.of h2) (.cons (.int _) (.cons (.int _) .nil)), (data_two nb db).1, (data_two nb db).2.1, (data_two nb db).2.2, short_two nb db, ?_⟩
    refine r_eqS ?_
    rw [decide_eq_true rfl]
    exact k _ (s1.trans s2)
end
end My

namespace My
open PySem L2
/-! ### neighbours, by whole numbers -/
theorem split_floor {n : Rat} {low rest whole : Int} (h0 : 0 ≤ rest) (h1 : rest < whole) (e : n = (low : Rat) + Rat.divInt rest whole) : n.floor = low ∧ highQ n = low + (if decide (0 < rest) then 1 else 0) := by
  have q : (0 : Rat) < (whole : Rat) := Rat.intCast_pos.mpr (by omega)
  have p0 : (0 : Rat) ≤ Rat.divInt rest whole := by
    rw [Rat.divInt_eq_div]
    refine Rat.not_lt.mp fun z => ?_
    have := (Rat.div_lt_iff q).mp z
    have := Rat.intCast_nonneg.mpr h0
    grind
  have p1 : Rat.divInt rest whole < 1 := by
    rw [Rat.divInt_eq_div]
    have : (rest : Rat) < (whole : Rat) := Rat.intCast_lt_intCast.mpr h1
    exact (Rat.div_lt_iff q).mpr (by grind)
  have f := floor_add (c := low) p0 p1
  have g := part_add (c := low) p0 p1
  rw [e, f]
  refine ⟨rfl, ?_⟩
  unfold highQ
  rw [g, f]
  by_cases z : rest = 0
  · subst z
    rw [if_pos (by rw [Rat.divInt_eq_div]; have e3 : ((0 : Int) : Rat) = 0 := rfl
                   rw [e3, Rat.div_def, Rat.zero_mul]; rfl)]
    simp
  · have r0 : 0 < rest := by omega
    rw [if_neg, decide_eq_true r0, if_pos rfl]
    intro y
    have y0 := Rat.num_eq_zero.mp y
    rw [Rat.divInt_eq_div] at y0
    have r' : (0 : Rat) < (rest : Rat) := Rat.intCast_pos.mpr r0
    have := (Rat.lt_div_iff (a := 0) (b := (rest : Rat)) q).mpr (by grind)
    grind
theorem by_same {t b k : Int} (hb : b ≠ 0) (hk : k ≠ 0) : Rat.divInt (t * k) (b * k) = Rat.divInt t b := by
  have hb' : (b : Rat) ≠ 0 := by simpa using hb
  have hk' : (k : Rat) ≠ 0 := by simpa using hk
  rw [Rat.divInt_eq_div, Rat.divInt_eq_div, Rat.intCast_mul, Rat.intCast_mul]
  grind
theorem mul_step {c d : Int} (hd : d ≠ 0) (i : Int) : Rat.divInt c d * (i : Rat) = Rat.divInt (i * c) d := by
  have hd' : (d : Rat) ≠ 0 := by simpa using hd
  rw [Rat.divInt_eq_div, Rat.divInt_eq_div, Rat.intCast_mul]
  grind
section
variable {P : Program} {w : World} {K : PySem.W.Frag} {mg : Str → Option Value} {base : Heap}
theorem r_neS {H : Hp} {Q : VK} {i j : Str} (q : Q (.bl (!decide (i = j))) H) : rNe (.str i) (.str j) H Q := ⟨rfl, by
  have e : decide (V.str i = V.str j) = decide (i = j) := by simp
  rw [e]; exact q⟩
theorem r_neB {H : Hp} {Q : VK} {i j : Bool} (q : Q (.bl (!decide (i = j))) H) : rNe (.bl i) (.bl j) H Q := ⟨rfl, by
  have e : decide (V.bl i = V.bl j) = decide (i = j) := by simp
  rw [e]; exact q⟩
theorem is_tup {w : World} {K : PySem.W.Frag} {H : Hp} {z : Addr} {xs : List V} {Q : VK} (h : H z = some (.tup xs)) (q : Q (.bl true) H) : rIsi K [.ref z, .ty "tuple"] H Q :=
  ⟨.ref z, .ty "tuple", .type "tuple", .type "tuple", true, rfl, .ty "tuple", .base (.tup h), kit_ty (by decide +kernel), q⟩
def spRight07 : Sp := fun vs H Q _ => ∃ (n g : Addr) (t b c d k : Int), vs = [.ref n, .ref g, .int k] ∧ H n = some (.tup [.int t, .int b]) ∧ H g = some (.tup [.int c, .int d]) ∧ t.natAbs < 2 ^ 100 ∧ (0 < b ∧ b < 2 ^ 71) ∧ (0 < c ∧ c < 2 ^ 60) ∧ (0 < d ∧ d < 2 ^ 60) ∧ (0 < k ∧ k < 10) ∧
  ∀ H' : Hp, Same H H' → Q (.bl true) H'
theorem okG_l_right (T : Txt w K mg) : FnG P w K mg base 6 T.f_l_right T.fd_l_right ["_law_number", "_law_grain_here", "_law_by"] spRight07 := by
  refine FnG.by_body T.F_l_right sc_l_right (fun vs H Q E h => ?_) (fun cdv A outer s H vs Q E hG hr h => ?_)
  · obtain ⟨n, g, t, b, c, d, k, rfl, _⟩ := h
    rfl
  · obtain ⟨n, g, t, b, c, d, by_, rfl, hn, hg, ht, hb, hc, hd, hk, k⟩ := h
    have bc0 : 0 < b * c := Int.mul_pos hb.1 hc.1
    have r0 : 0 ≤ t * d - t * d / (b * c) * (b * c) := by
      have := Int.emod_nonneg (t * d) (show b * c ≠ 0 by omega)
      rw [Int.emod_def, Int.mul_comm (b * c)] at this
      exact this
    have r1 : t * d - t * d / (b * c) * (b * c) < b * c := by
      have := Int.emod_lt_of_pos (t * d) bc0
      rw [Int.emod_def, Int.mul_comm (b * c)] at this
      exact this
    have split := steps_split (t := t) hb.1 hc.1 hd.1
    obtain ⟨fl, hi⟩ := split_floor r0 r1 split
    have td : (t * d).natAbs < 2 ^ 160 := natAbs_mul_lt (m := 100) (n := 60) ht (by omega) (by decide)
    have lb : (t * d / (b * c)).natAbs < 2 ^ 160 := Nat.lt_of_le_of_lt (Int.natAbs_ediv_le_natAbs _ _) td
    refine ⟨_, (pss_cons (ps_asg (pe_call (ok_l_steps T) (hr.mono (by decide)) (by rfl) T.m_l_steps T.F_l_steps.kp T.b_l_steps .nil pass0 (pa_cons (pv 0) (pa_cons (pv 1) pa_nil))) (pg_tup rfl (pgs_cons (pg_name (i := 3) sc_l_right.nd rfl (Or.inl rfl)) (pgs_cons (pg_name (i := 4) sc_l_right.nd rfl (Or.inl rfl)) (pgs_cons (pg_name (i := 5) sc_l_right.nd rfl (Or.inl rfl)) pgs_nil)))))
 (pss_cons (ps_set (i := 6) sc_l_right.nd rfl (Or.inl rfl) (pe_op op_add (pv 3) (pe_callTy call_int1 (by rfl) T.n_int (by decide +kernel) (pa_cons (pe_cmpR op_gt (pv 4) pe_int (nomark _)) pa_nil))))
 (pss_cons (ps_par (i := 7) (j := 8) rfl sc_l_right.nd rfl rfl (by decide) rfl rfl (pa_cons (pe_make T.mk_Number (ok_Number_init T) (hr.mono (by decide)) (by rfl) T.m_Number T.b_Number_init2 .nil pass0 (pa_cons (pe_op op_mulW (pe_ix ix_tup (pv 0) pe_int (fun _ _ => rfl)) (pv 2)) (pa_cons (pe_op op_mulW (pe_ix ix_tup (pv 0) pe_int (fun _ _ => rfl)) (pv 2)) pa_nil))) (pa_cons (pe_make T.mk_Number (ok_Number_init T) (hr.mono (by decide)) (by rfl) T.m_Number T.b_Number_init2 .nil pass0 (pa_cons (pe_op op_mulW (pe_ix ix_tup (pv 1) pe_int (fun _ _ => rfl)) (pv 2)) (pa_cons (pe_op op_mulW (pe_ix ix_tup (pv 1) pe_int (fun _ _ => rfl)) (pv 2)) pa_nil))) pa_nil)) (by rfl))
 (pss_cons (ps_set (i := 9) sc_l_right.nd rfl (Or.inl rfl) (pe_callB (call_repr2 hG (ok_Number_repr T) T.me_Number_repr.at_ T.me_Number_repr.fn T.b_Number_repr (hr.mono (by decide))) (by rfl) T.n_repr (by decide +kernel) (pa_cons (pe_tup (pa_cons (pv 7) (pa_cons (pv 8) pa_nil))) pa_nil)))
 (pss_cons (ps_set (i := 10) sc_l_right.nd rfl (Or.inl rfl) (pe_call (ok_neighbours T) (hr.mono (by decide)) (by rfl) T.m_neighbours T.F_neighbours.kp T.b_neighbours .nil pass0 (pa_cons (pv 7) (pa_cons (pv 8) pa_nil))))
 (pss_cons (ps_if (PW.pt (pw_or (pt_not (pt_val (pe_callB call_isi (by rfl) T.n_isinstance (by decide +kernel) (pa_cons (pv 10) (pa_cons (pe_bltn (v := .ty "tuple") (by rfl) T.n_tuple (by decide +kernel) rfl) pa_nil))))) (pw_or (pt_cmpR op_ne (pe_callB call_len_seq (by rfl) T.n_len PySem.boot_len (pa_cons (pv 10) pa_nil)) pe_int (nomark _)) (pw_or1 (pt_cmpR op_ne (pe_callB (call_repr2 hG (ok_Number_repr T) T.me_Number_repr.at_ T.me_Number_repr.fn T.b_Number_repr (hr.mono (by decide))) (by rfl) T.n_repr (by decide +kernel) (pa_cons (pe_tup (pa_cons (pv 7) (pa_cons (pv 8) pa_nil))) pa_nil)) (pv 9) (nomark _))))))
  (pss_one (ps_ret pe_bl))
  pss_nil)
 (pss_cons (ps_if (PW.pt (pw_or (pt_not (pt_val (pe_callG hG (okG_l_is T) (hr.mono (by decide)) (by rfl) T.m_l_is T.F_l_is.kp T.b_l_is .nil pass0 (pa_cons (pe_ix ix_tup (pv 10) pe_int (fun _ _ => rfl)) (pa_cons (pe_op op_mulW (pv 3) (pe_ix ix_tup (pv 1) pe_int (fun _ _ => rfl))) (pa_cons (pe_ix ix_tup (pv 1) pe_int (fun _ _ => rfl)) pa_nil)))))) (pw_or1 (pt_not (pt_val (pe_callG hG (okG_l_is T) (hr.mono (by decide)) (by rfl) T.m_l_is T.F_l_is.kp T.b_l_is .nil pass0 (pa_cons (pe_ix ix_tup (pv 10) pe_int (fun _ _ => rfl)) (pa_cons (pe_op op_mulW (pv 6) (pe_ix ix_tup (pv 1) pe_int (fun _ _ => rfl))) (pa_cons (pe_ix ix_tup (pv 1) pe_int (fun _ _ => rfl)) pa_nil)))))))))
  (pss_one (ps_ret pe_bl))
  pss_nil)
 (pss_cons (ps_if (PW.pt (pw_or (pt_val (pe_meth (pv 7) T.c_Number T.me_Number_below (ok_Number_below T) (hr.mono (by decide)) T.b_Number_below .nil pass0 (pa_cons (pe_ix ix_tup (pv 10) pe_int (fun _ _ => rfl)) pa_nil))) (pw_or (pt_val (pe_meth (pe_ix ix_tup (pv 10) pe_int (fun _ _ => rfl)) T.c_Number T.me_Number_below (ok_Number_below T) (hr.mono (by decide)) T.b_Number_below .nil pass0 (pa_cons (pv 7) pa_nil))) (pw_or1 (pt_cmpR op_ne (pe_cmpR (op_eqOwn (ok_Number_eq T) T.me_Number_eq.at_ T.me_Number_eq.fn T.b_Number_eq (hr.mono (by decide))) (pe_ix ix_tup (pv 10) pe_int (fun _ _ => rfl)) (pe_ix ix_tup (pv 10) pe_int (fun _ _ => rfl)) (nomark _)) (pe_cmpR op_eq (pv 4) pe_int (nomark _)) (nomark _))))))
  (pss_one (ps_ret pe_bl))
  pss_nil)
 (pss_one (ps_ret (pe_or (pe_cmpR op_eq (pv 4) pe_int (nomark _)) (pe_one (pe_cmpR (op_eqOwn (ok_Number_eq T) T.me_Number_eq.at_ T.me_Number_eq.fn T.b_Number_eq (hr.mono (by decide))) (pe_meth (pe_ix ix_tup (pv 10) pe_int (fun _ _ => rfl)) T.c_Number T.me_Number_less (ok_Number_less T) (hr.mono (by decide)) T.b_Number_less .nil pass0 (pa_cons (pe_ix ix_tup (pv 10) pe_int (fun _ _ => rfl)) pa_nil)) (pv 8) (nomark _)))))))))))))), ?_⟩
    walk_at "rdh"
    refine ⟨n, g, t, b, c, d, rfl, hn, hg, Nat.lt_of_lt_of_le ht (by decide), hb, ⟨hc.1, Int.lt_trans hc.2 (by decide)⟩, ⟨hd.1, Int.lt_trans hd.2 (by decide)⟩, fun p H1 s1 h1 => ?_⟩
    refine r_gTup h1 rfl ?_
    generalize t * d - t * d / (b * c) * (b * c) = rest at *
    generalize t * d / (b * c) = low at *
    generalize b * c = whole at *
    walk_at "rdh"
    refine .inr ⟨_, rfl, ?_⟩
    walk_at "rdh"
    have hn1 := s1 _ _ hn
    have hg1 := s1 _ _ hg
    refine r_ixT hn1 (atI_nat (j := 0) rfl) ?_
    walk_at "rdh"
    refine r_I (wide_mul (a := 100) (b := 4) ht (by omega) (by decide) (by decide) (by decide)) ?_
    walk_at "rdh"
    refine r_ixT hn1 (atI_nat (j := 1) rfl) ?_
    walk_at "rdh"
    refine r_I (wide_mul (a := 71) (b := 4) (by omega) (by omega) (by decide) (by decide) (by decide)) ?_
    walk_at "rdh"
    have m9 : ∀ {i : Int} {m : Nat}, i.natAbs < 2 ^ m → m ≤ 9000 → i.natAbs < 2 ^ 9000 := fun h l => Nat.lt_of_lt_of_le h (Nat.pow_le_pow_right (by decide) l)
    have bk : (b * by_).natAbs < 2 ^ 75 := natAbs_mul_lt (m := 71) (n := 4) (by omega) (by omega) (by decide)
    have dk : (d * by_).natAbs < 2 ^ 64 := natAbs_mul_lt (m := 60) (n := 4) (by omega) (by omega) (by decide)
    refine mk_num (Int.mul_ne_zero (by omega) (by omega)) (m9 bk (by decide)) fun here H2 s2 _ hH => ?_
    rw [by_same (by omega) (by omega)] at hH
    walk_at "rdh"
    have hg2 := s2 _ _ hg1
    refine r_ixT hg2 (atI_nat (j := 0) rfl) ?_
    walk_at "rdh"
    refine r_I (wide_mul (a := 60) (b := 4) (by omega) (by omega) (by decide) (by decide) (by decide)) ?_
    walk_at "rdh"
    refine r_ixT hg2 (atI_nat (j := 1) rfl) ?_
    walk_at "rdh"
    refine r_I (wide_mul (a := 60) (b := 4) (by omega) (by omega) (by decide) (by decide) (by decide)) ?_
    walk_at "rdh"
    refine mk_num (Int.mul_ne_zero (by omega) (by omega)) (m9 dk (by decide)) fun unit H3 s3 _ hU => ?_
    rw [by_same (by omega) (by omega)] at hU
    have hH3 := hH.same s3
    have bx : Bd 900 (Rat.divInt t b) := (Bd.of (n := 110) (by omega) (Nat.lt_of_lt_of_le ht (by decide)) (Nat.lt_of_lt_of_le (show b.natAbs < 2 ^ 72 by omega) (by decide))).mono (by decide)
    have by' : Bd 900 (Rat.divInt c d) := (Bd.of (n := 110) (by omega) (Nat.lt_of_lt_of_le (show c.natAbs < 2 ^ 61 by omega) (by decide)) (Nat.lt_of_lt_of_le (show d.natAbs < 2 ^ 61 by omega) (by decide))).mono (by decide)
    have yp : 0 < Rat.divInt c d := by
      rw [Rat.divInt_eq_div]
      have a1 : (0 : Rat) < (c : Rat) := Rat.intCast_pos.mpr hc.1
      have a2 : (0 : Rat) < (d : Rat) := Rat.intCast_pos.mpr hd.1
      exact (Rat.lt_div_iff a2).mpr (by grind)
    have y0 : Rat.divInt c d ≠ 0 := by grind
    walk_at "rdh"
    refine r_new (by show 2 ≤ 1000; decide) fun p1 q1 => ?_
    have s4 := Same.new (o := .tup [.ref here, .ref unit]) q1
    walk_at "rdh"
    refine rd_repr2 upd_same (hH3.same s4) (hU.same s4) bx by' ?_
    walk_at "rdh"
    refine ⟨here, unit, _, _, rfl, hH3.same s4, hU.same s4, bx, by', y0, fun f u v H5 s5 h5 hu hv => ?_⟩
    rw [fl, mul_step (by omega)] at hu
    rw [hi, mul_step (by omega)] at hv
    have s35 := s4.trans s5
    have hH5 := hH3.same s35
    have hU5 := hU.same s35
    have hg5 := s35 _ _ (s3 _ _ hg2)
    walk_at "rdh"
    refine is_tup (w := w) h5 ?_
    walk_at "rdh"
    refine r_iteF rfl ?_
    walk_at "rdh"
    refine ⟨f, _, rfl, .inr (SqT.of h5), ?_⟩
    walk_at "rdh"
    refine r_iteF rfl ?_
    walk_at "rdh"
    refine r_new (by show 2 ≤ 1000; decide) fun p2 q2 => ?_
    have s6 := Same.new (o := .tup [.ref here, .ref unit]) q2
    walk_at "rdh"
    refine rd_repr2 upd_same (hH5.same s6) (hU5.same s6) bx by' ?_
    walk_at "rdh"
    refine r_neS ?_
    rw [decide_eq_true rfl]
    walk_at "rdh"
    refine r_iteF rfl ?_
    have h6 := s6 _ _ h5
    have hg6 := s6 _ _ hg5
    have hu6 := hu.same s6
    have hv6 := hv.same s6
    have hH6 := hH5.same s6
    have hU6 := hU5.same s6
    have lc : (low * c).natAbs < 2 ^ 230 := natAbs_mul_lt (m := 160) (n := 61) lb (by omega) (by decide)
    have hb2 : (low + if decide (0 < rest) = true then 1 else 0).natAbs < 2 ^ 161 := by
      split <;> omega
    have hcb : ((low + if decide (0 < rest) = true then 1 else 0) * c).natAbs < 2 ^ 230 := natAbs_mul_lt (m := 161) (n := 61) hb2 (by omega) (by decide)
    have m19 : ∀ {i : Int} {m : Nat}, i.natAbs < 2 ^ m → m ≤ 1900 → i.natAbs < 2 ^ 1900 := fun h l => Nat.lt_of_lt_of_le h (Nat.pow_le_pow_right (by decide) l)
    have d61 : d.natAbs < 2 ^ 61 := by omega
    have hsame : ∀ H7, Same (upd H5 p2 (.tup [.ref here, .ref unit])) H7 → Q (.bl true) H7 := fun H7 s7 => k H7 (((((s1.trans s2).trans s3).trans s35).trans s6).trans s7)
    generalize upd H5 p2 (.tup [.ref here, .ref unit]) = H6 at *
    walk_at "rdh"
    refine r_ixT h6 (atI_nat (j := 0) rfl) ?_
    walk_at "rdh"
    refine r_ixT hg6 (atI_nat (j := 0) rfl) ?_
    walk_at "rdh"
    refine r_I (wide_mul (a := 160) (b := 61) lb (by omega) (by decide) (by decide) (by decide)) ?_
    walk_at "rdh"
    refine r_ixT hg6 (atI_nat (j := 1) rfl) ?_
    walk_at "rdh"
    refine ⟨u, low * c, d, rfl, hd.1, m19 d61 (by decide), m19 lc (by decide), hu6, fun H7 s7 => ?_⟩
    walk_at "rdh"
    refine r_iteF rfl ?_
    walk_at "rdh"
    refine r_ixT (s7 _ _ h6) (atI_nat (j := 1) rfl) ?_
    walk_at "rdh"
    refine r_ixT (s7 _ _ hg6) (atI_nat (j := 0) rfl) ?_
    walk_at "rdh"
    refine r_I (wide_mul (a := 161) (b := 61) hb2 (by omega) (by decide) (by decide) (by decide)) ?_
    walk_at "rdh"
    refine r_ixT (s7 _ _ hg6) (atI_nat (j := 1) rfl) ?_
    walk_at "rdh"
    refine ⟨v, _, d, rfl, hd.1, m19 d61 (by decide), m19 hcb (by decide), hv6.same s7, fun H8 s8 => ?_⟩
    walk_at "rdh"
    refine r_iteF rfl ?_
    have s68 := s7.trans s8
    have h8 := s68 _ _ h6
    have hu8 := hu6.same s68
    have hv8 := hv6.same s68
    have hH8 := hH6.same s68
    have hU8 := hU6.same s68
    have bu : Bd 4000 (Rat.divInt (low * c) d) := (Bd.of (n := 231) (by omega) (Nat.lt_of_lt_of_le lc (by decide)) (Nat.lt_of_lt_of_le d61 (by decide))).mono (by decide)
    have bv : Bd 4000 (Rat.divInt ((low + if decide (0 < rest) = true then 1 else 0) * c) d) := (Bd.of (n := 231) (by omega) (Nat.lt_of_lt_of_le hcb (by decide)) (Nat.lt_of_lt_of_le d61 (by decide))).mono (by decide)
    rw [← mul_step (by omega)] at hu8 hv8 bu bv
    have xs : Rat.divInt t b = Rat.divInt c d * (Rat.divInt t b / Rat.divInt c d) := by grind
    have f1 : (low : Rat) ≤ Rat.divInt t b / Rat.divInt c d := by rw [← fl]; exact Rat.floor_le _
    have f2 : Rat.divInt t b / Rat.divInt c d ≤ ((low + if decide (0 < rest) = true then 1 else 0 : Int) : Rat) := by
      rw [← hi]
      unfold highQ
      split
      · rename_i z
        have := Rat.num_eq_zero.mp z
        unfold partQ at this
        grind
      · exact Rat.le_of_lt (Rat.lt_floor_add_one _)
    generalize hnq : Rat.divInt t b / Rat.divInt c d = nq at *
    generalize Rat.divInt c d = y at *
    have g1 : ¬ Rat.divInt t b < y * (low : Rat) := by
      rw [xs]
      refine Rat.not_lt.mpr ?_
      exact Rat.mul_le_mul_of_nonneg_left f1 (Rat.le_of_lt yp)
    have g2 : ¬ y * ((low + if decide (0 < rest) = true then 1 else 0 : Int) : Rat) < Rat.divInt t b := by
      conv => rhs; rhs; rw [xs]
      refine Rat.not_lt.mpr ?_
      exact Rat.mul_le_mul_of_nonneg_left f2 (Rat.le_of_lt yp)
    have g3 : decide (y * (low : Rat) = y * ((low + if decide (0 < rest) = true then 1 else 0 : Int) : Rat)) = decide (rest = 0) := by
      rw [decide_eq_decide]
      by_cases z : rest = 0
      · subst z
        simp
      · have rp : 0 < rest := by omega
        rw [decide_eq_true rp, if_pos rfl, Rat.intCast_add]
        have e1 : ((1 : Int) : Rat) = 1 := rfl
        rw [e1]
        constructor
        · intro q
          exfalso
          grind
        · intro q
          exact absurd q z
    obtain ⟨dh, eh⟩ := hH8
    obtain ⟨du, eu⟩ := hu8
    obtain ⟨dv, ev⟩ := hv8
    walk_at "rdh"
    refine r_meth1 eh (no_below _) ?_
    walk_at "rdh"
    refine r_ixT h8 (atI_nat (j := 0) rfl) ?_
    walk_at "rdh"
    refine ⟨here, u, _, _, rfl, ⟨_, eh⟩, ⟨_, eu⟩, bx.mono (by decide), bu, ?_⟩
    rw [decide_eq_false g1]
    walk_at "rdh"
    refine r_iteF rfl ?_
    walk_at "rdh"
    refine r_ixT h8 (atI_nat (j := 1) rfl) ?_
    walk_at "rdh"
    refine r_meth1 ev (no_below _) ?_
    walk_at "rdh"
    refine ⟨v, here, _, _, rfl, ⟨_, ev⟩, ⟨_, eh⟩, bv, bx.mono (by decide), ?_⟩
    rw [decide_eq_false g2]
    walk_at "rdh"
    refine r_iteF rfl ?_
    walk_at "rdh"
    refine r_ixT h8 (atI_nat (j := 0) rfl) ?_
    walk_at "rdh"
    refine r_ixT h8 (atI_nat (j := 1) rfl) ?_
    refine r_eqNum ⟨_, eu⟩ ⟨_, ev⟩ ?_
    rw [g3]
    walk_at "rdh"
    refine r_neB ?_
    rw [decide_eq_true rfl]
    walk_at "rdh"
    refine r_iteF rfl ?_
    walk_at "rdh"
    refine r_ite (fun z => ?_) (fun z => ?_)
    · exact hsame _ s68
    · have rp : 0 < rest := by have := of_decide_eq_false z; omega
      rw [decide_eq_true rp, if_pos rfl] at ev bv
      walk_at "rdh"
      refine r_ixT h8 (atI_nat (j := 1) rfl) ?_
      walk_at "rdh"
      refine r_meth1 ev (no_less _) ?_
      walk_at "rdh"
      refine r_ixT h8 (atI_nat (j := 0) rfl) ?_
      walk_at "rdh"
      refine ⟨v, u, _, _, rfl, ⟨_, ev⟩, ⟨_, eu⟩, bv, bu, trivial, fun df H9 s9 _ h9 => ?_⟩
      walk_at "rdh"
      refine r_eqNum h9 (hU8.same s9) ?_
      have e9 : y * ((low + 1 : Int) : Rat) - y * (low : Rat) = y := by
        rw [Rat.intCast_add]
        have e1 : ((1 : Int) : Rat) = 1 := rfl
        rw [e1]
        grind
      rw [decide_eq_true e9]
      exact hsame _ (s68.trans s9)
end
end My

namespace My
open PySem L2
section
variable {P : Program} {w : World} {K : PySem.W.Frag} {mg : Str → Option Value} {base : Heap}
def spLaw (K : PySem.W.Frag) : Sp := fun vs H Q _ => ∃ (a : Addr) (ns : List Int), vs = [.ref a] ∧ SqL K H a (ns.map V.int) ∧ ns.length ≤ 63 ∧ ∀ H', Q (.bl true) H'
theorem okG_law (T : Txt w K mg) : FnG P w K mg base 7 T.f_law T.fd_law ["_law_script"] (spLaw K) := by
  refine FnG.by_body T.F_law sc_law (fun vs H Q E h => ?_) (fun cdv A outer s H vs Q E hG hr h => ?_)
  · obtain ⟨a, ns, rfl, _⟩ := h
    rfl
  · obtain ⟨a, ns, rfl, hS, hl, k⟩ := h
    refine ⟨_, (pss_cons (ps_set (i := 1) sc_law.nd rfl (Or.inl rfl) (pe_call (ok_l_deck T) (hr.mono (by decide)) (by rfl) T.m_l_deck T.F_l_deck.kp T.b_l_deck .nil pass0 (pa_cons (pv 0) pa_nil)))
 (pss_cons (ps_for PassesOwn.never rfl (pi_range1 rfl T.n_range (pa_cons pe_int pa_nil)) (pg_name (i := 2) sc_law.nd rfl (Or.inl rfl))
  (pss_cons (ps_set (i := 3) sc_law.nd rfl (Or.inl rfl) (pe_call (ok_l_grain T) (hr.mono (by decide)) (by rfl) T.m_l_grain T.F_l_grain.kp T.b_l_grain .nil pass0 (pa_cons (pv 1) pa_nil)))
 (pss_one (ps_if (pt_not (pt_val (pe_callG hG (okG_l_right T) (hr.mono (by decide)) (by rfl) T.m_l_right T.F_l_right.kp T.b_l_right .nil pass0 (pa_cons (pe_call (ok_l_near T) (hr.mono (by decide)) (by rfl) T.m_l_near T.F_l_near.kp T.b_l_near .nil pass0 (pa_cons (pv 1) (pa_cons (pv 3) pa_nil))) (pa_cons (pv 3) (pa_cons (pe_ix ix_list (pe_lst (pa_cons pe_int (pa_cons pe_int (pa_cons pe_int pa_nil)))) (pe_call (ok_l_draw T) (hr.mono (by decide)) (by rfl) T.m_l_draw T.F_l_draw.kp T.b_l_draw .nil pass0 (pa_cons (pv 1) (pa_cons pe_int pa_nil))) (fun _ _ => rfl)) pa_nil))))))
  (pss_one (ps_ret pe_bl))
  pss_nil))))
 (pss_one (ps_ret pe_bl)))), ?_⟩
    walk_at "rdh"
    refine ⟨a, ns, rfl, hS, hl, fun d c H1 s1 dk => ?_⟩
    walk_at "rdh"
    refine r_rng1 ?_
    walk_at "rdh"
    refine ⟨40, rfl, by decide, by decide, for_range (lo := 0) (n := 40) (fun i σ H' => ∃ v2 v3 : Option V, σ = [some (.ref a), some (.ref d), v2, v3] ∧ DeckAt H' d c)
      ⟨none, none, rfl, dk⟩ ?_ ?_⟩
    · rintro i σ H2 hi ⟨v2, v3, rfl, dk2⟩
      walk_at "rdh"
      refine ⟨d, c, rfl, dk2, fun g a1 b1 H3 o3 dk3 hg ha hb => ?_⟩
      walk_at "rdh"
      refine ⟨d, c, g, a1, b1, rfl, dk3, hg, ha, hb, fun np t u H4 o4 dk4 hn ht hu => ?_⟩
      have hg4 := o4.keep dk3 hg (fun _ z => by cases z)
      walk_at "rdh"
      refine r_new (by show 3 ≤ 1000; decide) fun l hl => ?_
      obtain ⟨l1, l2⟩ := fresh_ne dk4 hl
      have sl := Same.new (o := .lst [.int 1, .int 1, .int 7]) hl
      walk_at "rdh"
      refine rd_draw (dk4.same sl) (by decide) (by decide) fun e5 H5 o5 dk5 e50 e51 => ?_
      have hL := o5 l _ l1 l2 upd_same
      obtain ⟨x, av, vm⟩ := atI_mem (xs := [V.int 1, .int 1, .int 7]) e50 e51
      refine r_ixL hL av ?_
      obtain ⟨f, rfl, hf⟩ : ∃ f : Int, x = .int f ∧ (0 < f ∧ f < 10) := by
        obtain ⟨i, rfl, hi⟩ := int_of (xs := [1, 1, 7]) vm
        refine ⟨i, rfl, ?_⟩
        simp only [List.mem_cons, List.not_mem_nil, or_false] at hi
        omega
      have hn5 := o5.keep (dk4.same sl) (sl _ _ hn) (fun _ z => by cases z)
      have hg5 := o5.keep (dk4.same sl) (sl _ _ hg4) (fun _ z => by cases z)
      walk_at "rdh"
      refine ⟨np, g, t, u, a1, b1, f, rfl, hn5, hg5, ht, hu, ha, hb, hf, fun H6 s6 => ?_⟩
      walk_at "rdh"
      refine r_iteF rfl ?_
      walk_at "rdh"
      exact ⟨_, _, rfl, dk5.same s6⟩
    · rintro σ H2 ⟨v2, v3, rfl, dk2⟩
      walk_at "rdh"
      exact k _
end
end My

namespace My
open PySem L2
theorem kit_self {K : PySem.W.Frag} {C : Addr} : PySem.W.kitOne K (.ref C) (.ref C) = some true := if_pos (by simp)
theorem bi_Number_init {K : PySem.W.Frag} {f : Addr} {fd : FuncData} (F : FunD K "__init__" "Number.__init__" (defArgs s_Number_init) (defBody s_Number_init) (defScope s_Number_init) [V.int 1] [] f fd) :
    Binds K fd ["self", "top", "bottom"] [] ∧ ∃ ds : List Value, Vals [V.int 1] ds ∧ Binds K fd ["self", "top", "bottom"] ds := by
  constructor
  · obtain ⟨ds, r, b⟩ := F.binds1 (ps := ["self", "top", "bottom"]) 3 1 (by simp) rfl fun T kV doc pm an cdv ct us its h1 h2 => match us, its, h1, h2 with | [_, _, _], [_], _, _ => ⟨_, rfl, rfl⟩
    cases r
    exact b
  · exact F.binds1 (ps := ["self", "top", "bottom"]) 2 0 (by simp) rfl fun T kV doc pm an cdv ct us its h1 h2 => match us, its, h1, h2 with | [_, _], [_], _, _ => ⟨_, rfl, rfl⟩
theorem all_mk {l : PySem.W.OpenLaw} {w : World} {K : PySem.W.Frag} {h : Heap} {mg : Str → Option Value} {fa : Addr} (X : K.In h) (G : h.Ns mainGlobals mg) (hfa : mg "law" = some (.ref fa))
    {C_Number : Addr}
    {f_Number_init : Addr} {od_Number_init an_Number_init : Option Addr} {sl_Number_init : Array (Option Value)} {oc_Number_init dc_Number_init pm_Number_init cd_Number_init ct_Number_init : Value}
    {kV_Number_init : Value}
    {Td_Number_init : Addr} {cT_Number_init : Value} {dT_Number_init : Option Addr} {nT_Number_init : Nat} {sT_Number_init : Array (Option Value)} {tk_Number_init : Tok}
    {f_Number_eq : Addr} {od_Number_eq an_Number_eq : Option Addr} {sl_Number_eq : Array (Option Value)} {oc_Number_eq dc_Number_eq pm_Number_eq cd_Number_eq ct_Number_eq : Value}
    {kV_Number_eq : Value}
    {f_Number_repr : Addr} {od_Number_repr an_Number_repr : Option Addr} {sl_Number_repr : Array (Option Value)} {oc_Number_repr dc_Number_repr pm_Number_repr cd_Number_repr ct_Number_repr : Value}
    {kV_Number_repr : Value}
    {f_Number_less : Addr} {od_Number_less an_Number_less : Option Addr} {sl_Number_less : Array (Option Value)} {oc_Number_less dc_Number_less pm_Number_less cd_Number_less ct_Number_less : Value}
    {kV_Number_less : Value}
    {f_Number_times : Addr} {od_Number_times an_Number_times : Option Addr} {sl_Number_times : Array (Option Value)} {oc_Number_times dc_Number_times pm_Number_times cd_Number_times ct_Number_times : Value}
    {kV_Number_times : Value}
    {f_Number_over : Addr} {od_Number_over an_Number_over : Option Addr} {sl_Number_over : Array (Option Value)} {oc_Number_over dc_Number_over pm_Number_over cd_Number_over ct_Number_over : Value}
    {kV_Number_over : Value}
    {f_Number_below : Addr} {od_Number_below an_Number_below : Option Addr} {sl_Number_below : Array (Option Value)} {oc_Number_below dc_Number_below pm_Number_below cd_Number_below ct_Number_below : Value}
    {kV_Number_below : Value}
    {f_Number_floor : Addr} {od_Number_floor an_Number_floor : Option Addr} {sl_Number_floor : Array (Option Value)} {oc_Number_floor dc_Number_floor pm_Number_floor cd_Number_floor ct_Number_floor : Value}
    {kV_Number_floor : Value}
    {f_neighbours : Addr} {od_neighbours an_neighbours : Option Addr} {sl_neighbours : Array (Option Value)} {oc_neighbours dc_neighbours pm_neighbours cd_neighbours ct_neighbours : Value}
    {kV_neighbours : Value}
    {f_place_of : Addr} {od_place_of an_place_of : Option Addr} {sl_place_of : Array (Option Value)} {oc_place_of dc_place_of pm_place_of cd_place_of ct_place_of : Value}
    {kV_place_of : Value}
    {f_l_deck : Addr} {od_l_deck an_l_deck : Option Addr} {sl_l_deck : Array (Option Value)} {oc_l_deck dc_l_deck pm_l_deck cd_l_deck ct_l_deck : Value}
    {kV_l_deck : Value}
    {f_l_draw : Addr} {od_l_draw an_l_draw : Option Addr} {sl_l_draw : Array (Option Value)} {oc_l_draw dc_l_draw pm_l_draw cd_l_draw ct_l_draw : Value}
    {kV_l_draw : Value}
    {f_l_grain : Addr} {od_l_grain an_l_grain : Option Addr} {sl_l_grain : Array (Option Value)} {oc_l_grain dc_l_grain pm_l_grain cd_l_grain ct_l_grain : Value}
    {kV_l_grain : Value}
    {f_l_near : Addr} {od_l_near an_l_near : Option Addr} {sl_l_near : Array (Option Value)} {oc_l_near dc_l_near pm_l_near cd_l_near ct_l_near : Value}
    {kV_l_near : Value}
    {f_l_steps : Addr} {od_l_steps an_l_steps : Option Addr} {sl_l_steps : Array (Option Value)} {oc_l_steps dc_l_steps pm_l_steps cd_l_steps ct_l_steps : Value}
    {kV_l_steps : Value}
    {f_l_as : Addr} {od_l_as an_l_as : Option Addr} {sl_l_as : Array (Option Value)} {oc_l_as dc_l_as pm_l_as cd_l_as ct_l_as : Value}
    {kV_l_as : Value}
    {f_l_is : Addr} {od_l_is an_l_is : Option Addr} {sl_l_is : Array (Option Value)} {oc_l_is dc_l_is pm_l_is cd_l_is ct_l_is : Value}
    {kV_l_is : Value}
    {f_l_right : Addr} {od_l_right an_l_right : Option Addr} {sl_l_right : Array (Option Value)} {oc_l_right dc_l_right pm_l_right cd_l_right ct_l_right : Value}
    {kV_l_right : Value}
    {f_law : Addr} {od_law an_law : Option Addr} {sl_law : Array (Option Value)} {oc_law dc_law pm_law cd_law ct_law : Value}
    {kV_law : Value}
    (aC_Number : PySem.W.nsIn K mainGlobals "Number" = some (some (.ref C_Number)))
    (pg_Number : PySem.W.plainGet K C_Number Str.empty = true)
    (hd_Number : PySem.W.hasDictIn K C_Number = true)
    (po_Number : PySem.W.plainOver K C_Number = true)
    (sa_Number : PySem.W.findIn K (.ref C_Number) "__setattr__" = some (some (.builtin "object.__setattr__")))
    (nf_Number_top : PySem.W.findIn K (.ref C_Number) "top" = some none)
    (nf_Number_bottom : PySem.W.findIn K (.ref C_Number) "bottom" = some none)
    (tc_Number : PySem.W.findIn K (.ref C_Number) "__class__" = some (some (.builtin "object.__class__")))
    (tg_Number : PySem.W.specialIn K (.builtin "object.__class__") "__get__" = some (some (.builtin "getset_descriptor.__get__")))
    (tt_Number : PySem.W.takesIn K (.builtin "object.__class__") = some true)
    (tm_Number : PySem.W.mroIn K C_Number (.type "object") = some true)
    (nn_Number : PySem.W.findIn K (.ref C_Number) "__ne__" = some (some (.builtin "object.__ne__")))
    (mi_Number : PySem.W.makesIn K C_Number = true)
    (kc_Number : PySem.W.keepIn K (.ref C_Number) = true)
    (a_Number_init : PySem.W.findIn K (.ref C_Number) "__init__" = some (some (.ref f_Number_init)))
    (i_Number_init : PySem.W.isFn K (.ref f_Number_init) = true)
    (l_Number_init : K.lookup f_Number_init = some ⟨oc_Number_init, od_Number_init, .func (PySem.W.fnOf "__init__" "Number.__init__" (defArgs s_Number_init) (defBody s_Number_init) (defScope s_Number_init) (.ref Td_Number_init) kV_Number_init dc_Number_init pm_Number_init an_Number_init cd_Number_init ct_Number_init), sl_Number_init⟩)
    (c_Number_init : PySem.W.codeIn K cd_Number_init "Number.__init__" = true)
    (k_Number_init : PySem.W.keepIn K (.ref f_Number_init) = true)
    (T_Number_init : K.lookup Td_Number_init = some ⟨cT_Number_init, dT_Number_init, .seq #[.int 1 tk_Number_init] nT_Number_init, sT_Number_init⟩)
    (a_Number_eq : PySem.W.findIn K (.ref C_Number) "__eq__" = some (some (.ref f_Number_eq)))
    (i_Number_eq : PySem.W.isFn K (.ref f_Number_eq) = true)
    (l_Number_eq : K.lookup f_Number_eq = some ⟨oc_Number_eq, od_Number_eq, .func (PySem.W.fnOf "__eq__" "Number.__eq__" (defArgs s_Number_eq) (defBody s_Number_eq) (defScope s_Number_eq) .none kV_Number_eq dc_Number_eq pm_Number_eq an_Number_eq cd_Number_eq ct_Number_eq), sl_Number_eq⟩)
    (c_Number_eq : PySem.W.codeIn K cd_Number_eq "Number.__eq__" = true)
    (k_Number_eq : PySem.W.keepIn K (.ref f_Number_eq) = true)
    (a_Number_repr : PySem.W.findIn K (.ref C_Number) "__repr__" = some (some (.ref f_Number_repr)))
    (i_Number_repr : PySem.W.isFn K (.ref f_Number_repr) = true)
    (l_Number_repr : K.lookup f_Number_repr = some ⟨oc_Number_repr, od_Number_repr, .func (PySem.W.fnOf "__repr__" "Number.__repr__" (defArgs s_Number_repr) (defBody s_Number_repr) (defScope s_Number_repr) .none kV_Number_repr dc_Number_repr pm_Number_repr an_Number_repr cd_Number_repr ct_Number_repr), sl_Number_repr⟩)
    (c_Number_repr : PySem.W.codeIn K cd_Number_repr "Number.__repr__" = true)
    (k_Number_repr : PySem.W.keepIn K (.ref f_Number_repr) = true)
    (a_Number_less : PySem.W.findIn K (.ref C_Number) "less" = some (some (.ref f_Number_less)))
    (i_Number_less : PySem.W.isFn K (.ref f_Number_less) = true)
    (l_Number_less : K.lookup f_Number_less = some ⟨oc_Number_less, od_Number_less, .func (PySem.W.fnOf "less" "Number.less" (defArgs s_Number_less) (defBody s_Number_less) (defScope s_Number_less) .none kV_Number_less dc_Number_less pm_Number_less an_Number_less cd_Number_less ct_Number_less), sl_Number_less⟩)
    (c_Number_less : PySem.W.codeIn K cd_Number_less "Number.less" = true)
    (k_Number_less : PySem.W.keepIn K (.ref f_Number_less) = true)
    (a_Number_times : PySem.W.findIn K (.ref C_Number) "times" = some (some (.ref f_Number_times)))
    (i_Number_times : PySem.W.isFn K (.ref f_Number_times) = true)
    (l_Number_times : K.lookup f_Number_times = some ⟨oc_Number_times, od_Number_times, .func (PySem.W.fnOf "times" "Number.times" (defArgs s_Number_times) (defBody s_Number_times) (defScope s_Number_times) .none kV_Number_times dc_Number_times pm_Number_times an_Number_times cd_Number_times ct_Number_times), sl_Number_times⟩)
    (c_Number_times : PySem.W.codeIn K cd_Number_times "Number.times" = true)
    (k_Number_times : PySem.W.keepIn K (.ref f_Number_times) = true)
    (a_Number_over : PySem.W.findIn K (.ref C_Number) "over" = some (some (.ref f_Number_over)))
    (i_Number_over : PySem.W.isFn K (.ref f_Number_over) = true)
    (l_Number_over : K.lookup f_Number_over = some ⟨oc_Number_over, od_Number_over, .func (PySem.W.fnOf "over" "Number.over" (defArgs s_Number_over) (defBody s_Number_over) (defScope s_Number_over) .none kV_Number_over dc_Number_over pm_Number_over an_Number_over cd_Number_over ct_Number_over), sl_Number_over⟩)
    (c_Number_over : PySem.W.codeIn K cd_Number_over "Number.over" = true)
    (k_Number_over : PySem.W.keepIn K (.ref f_Number_over) = true)
    (a_Number_below : PySem.W.findIn K (.ref C_Number) "below" = some (some (.ref f_Number_below)))
    (i_Number_below : PySem.W.isFn K (.ref f_Number_below) = true)
    (l_Number_below : K.lookup f_Number_below = some ⟨oc_Number_below, od_Number_below, .func (PySem.W.fnOf "below" "Number.below" (defArgs s_Number_below) (defBody s_Number_below) (defScope s_Number_below) .none kV_Number_below dc_Number_below pm_Number_below an_Number_below cd_Number_below ct_Number_below), sl_Number_below⟩)
    (c_Number_below : PySem.W.codeIn K cd_Number_below "Number.below" = true)
    (k_Number_below : PySem.W.keepIn K (.ref f_Number_below) = true)
    (a_Number_floor : PySem.W.findIn K (.ref C_Number) "floor" = some (some (.ref f_Number_floor)))
    (i_Number_floor : PySem.W.isFn K (.ref f_Number_floor) = true)
    (l_Number_floor : K.lookup f_Number_floor = some ⟨oc_Number_floor, od_Number_floor, .func (PySem.W.fnOf "floor" "Number.floor" (defArgs s_Number_floor) (defBody s_Number_floor) (defScope s_Number_floor) .none kV_Number_floor dc_Number_floor pm_Number_floor an_Number_floor cd_Number_floor ct_Number_floor), sl_Number_floor⟩)
    (c_Number_floor : PySem.W.codeIn K cd_Number_floor "Number.floor" = true)
    (k_Number_floor : PySem.W.keepIn K (.ref f_Number_floor) = true)
    (a_neighbours : PySem.W.nsIn K mainGlobals "neighbours" = some (some (.ref f_neighbours)))
    (l_neighbours : K.lookup f_neighbours = some ⟨oc_neighbours, od_neighbours, .func (PySem.W.fnOf "neighbours" "neighbours" (defArgs s_neighbours) (defBody s_neighbours) (defScope s_neighbours) .none kV_neighbours dc_neighbours pm_neighbours an_neighbours cd_neighbours ct_neighbours), sl_neighbours⟩)
    (c_neighbours : PySem.W.codeIn K cd_neighbours "neighbours" = true)
    (k_neighbours : PySem.W.keepIn K (.ref f_neighbours) = true)
    (a_place_of : PySem.W.nsIn K mainGlobals "place_of" = some (some (.ref f_place_of)))
    (l_place_of : K.lookup f_place_of = some ⟨oc_place_of, od_place_of, .func (PySem.W.fnOf "place_of" "place_of" (defArgs s_place_of) (defBody s_place_of) (defScope s_place_of) .none kV_place_of dc_place_of pm_place_of an_place_of cd_place_of ct_place_of), sl_place_of⟩)
    (c_place_of : PySem.W.codeIn K cd_place_of "place_of" = true)
    (k_place_of : PySem.W.keepIn K (.ref f_place_of) = true)
    (a_l_deck : PySem.W.nsIn K mainGlobals "_law_deck" = some (some (.ref f_l_deck)))
    (l_l_deck : K.lookup f_l_deck = some ⟨oc_l_deck, od_l_deck, .func (PySem.W.fnOf "_law_deck" "_law_deck" (defArgs s_l_deck) (defBody s_l_deck) (defScope s_l_deck) .none kV_l_deck dc_l_deck pm_l_deck an_l_deck cd_l_deck ct_l_deck), sl_l_deck⟩)
    (c_l_deck : PySem.W.codeIn K cd_l_deck "_law_deck" = true)
    (k_l_deck : PySem.W.keepIn K (.ref f_l_deck) = true)
    (a_l_draw : PySem.W.nsIn K mainGlobals "_law_draw" = some (some (.ref f_l_draw)))
    (l_l_draw : K.lookup f_l_draw = some ⟨oc_l_draw, od_l_draw, .func (PySem.W.fnOf "_law_draw" "_law_draw" (defArgs s_l_draw) (defBody s_l_draw) (defScope s_l_draw) .none kV_l_draw dc_l_draw pm_l_draw an_l_draw cd_l_draw ct_l_draw), sl_l_draw⟩)
    (c_l_draw : PySem.W.codeIn K cd_l_draw "_law_draw" = true)
    (k_l_draw : PySem.W.keepIn K (.ref f_l_draw) = true)
    (a_l_grain : PySem.W.nsIn K mainGlobals "_law_grain" = some (some (.ref f_l_grain)))
    (l_l_grain : K.lookup f_l_grain = some ⟨oc_l_grain, od_l_grain, .func (PySem.W.fnOf "_law_grain" "_law_grain" (defArgs s_l_grain) (defBody s_l_grain) (defScope s_l_grain) .none kV_l_grain dc_l_grain pm_l_grain an_l_grain cd_l_grain ct_l_grain), sl_l_grain⟩)
    (c_l_grain : PySem.W.codeIn K cd_l_grain "_law_grain" = true)
    (k_l_grain : PySem.W.keepIn K (.ref f_l_grain) = true)
    (a_l_near : PySem.W.nsIn K mainGlobals "_law_near" = some (some (.ref f_l_near)))
    (l_l_near : K.lookup f_l_near = some ⟨oc_l_near, od_l_near, .func (PySem.W.fnOf "_law_near" "_law_near" (defArgs s_l_near) (defBody s_l_near) (defScope s_l_near) .none kV_l_near dc_l_near pm_l_near an_l_near cd_l_near ct_l_near), sl_l_near⟩)
    (c_l_near : PySem.W.codeIn K cd_l_near "_law_near" = true)
    (k_l_near : PySem.W.keepIn K (.ref f_l_near) = true)
    (a_l_steps : PySem.W.nsIn K mainGlobals "_law_steps" = some (some (.ref f_l_steps)))
    (l_l_steps : K.lookup f_l_steps = some ⟨oc_l_steps, od_l_steps, .func (PySem.W.fnOf "_law_steps" "_law_steps" (defArgs s_l_steps) (defBody s_l_steps) (defScope s_l_steps) .none kV_l_steps dc_l_steps pm_l_steps an_l_steps cd_l_steps ct_l_steps), sl_l_steps⟩)
    (c_l_steps : PySem.W.codeIn K cd_l_steps "_law_steps" = true)
    (k_l_steps : PySem.W.keepIn K (.ref f_l_steps) = true)
    (a_l_as : PySem.W.nsIn K mainGlobals "_law_as" = some (some (.ref f_l_as)))
    (l_l_as : K.lookup f_l_as = some ⟨oc_l_as, od_l_as, .func (PySem.W.fnOf "_law_as" "_law_as" (defArgs s_l_as) (defBody s_l_as) (defScope s_l_as) .none kV_l_as dc_l_as pm_l_as an_l_as cd_l_as ct_l_as), sl_l_as⟩)
    (c_l_as : PySem.W.codeIn K cd_l_as "_law_as" = true)
    (k_l_as : PySem.W.keepIn K (.ref f_l_as) = true)
    (a_l_is : PySem.W.nsIn K mainGlobals "_law_is" = some (some (.ref f_l_is)))
    (l_l_is : K.lookup f_l_is = some ⟨oc_l_is, od_l_is, .func (PySem.W.fnOf "_law_is" "_law_is" (defArgs s_l_is) (defBody s_l_is) (defScope s_l_is) .none kV_l_is dc_l_is pm_l_is an_l_is cd_l_is ct_l_is), sl_l_is⟩)
    (c_l_is : PySem.W.codeIn K cd_l_is "_law_is" = true)
    (k_l_is : PySem.W.keepIn K (.ref f_l_is) = true)
    (a_l_right : PySem.W.nsIn K mainGlobals "_law_right" = some (some (.ref f_l_right)))
    (l_l_right : K.lookup f_l_right = some ⟨oc_l_right, od_l_right, .func (PySem.W.fnOf "_law_right" "_law_right" (defArgs s_l_right) (defBody s_l_right) (defScope s_l_right) .none kV_l_right dc_l_right pm_l_right an_l_right cd_l_right ct_l_right), sl_l_right⟩)
    (c_l_right : PySem.W.codeIn K cd_l_right "_law_right" = true)
    (k_l_right : PySem.W.keepIn K (.ref f_l_right) = true)
    (a_law : PySem.W.nsIn K mainGlobals "law" = some (some (.ref f_law)))
    (l_law : K.lookup f_law = some ⟨oc_law, od_law, .func (PySem.W.fnOf "law" "law" (defArgs s_law) (defBody s_law) (defScope s_law) .none kV_law dc_law pm_law an_law cd_law ct_law), sl_law⟩)
    (c_law : PySem.W.codeIn K cd_law "law" = true)
    (k_law : PySem.W.keepIn K (.ref f_law) = true)
    (a_gcd : PySem.W.nsIn K mainGlobals "gcd" = some (some (.builtin "math.gcd")))
    (z_range : PySem.W.nsIn K mainGlobals "range" = some none)
    (z_isinstance : PySem.W.nsIn K mainGlobals "isinstance" = some none)
    (z_str : PySem.W.nsIn K mainGlobals "str" = some none)
    (z_int : PySem.W.nsIn K mainGlobals "int" = some none)
    (z_list : PySem.W.nsIn K mainGlobals "list" = some none)
    (z_len : PySem.W.nsIn K mainGlobals "len" = some none)
    (z_abs : PySem.W.nsIn K mainGlobals "abs" = some none)
    (z_max : PySem.W.nsIn K mainGlobals "max" = some none)
    (z_repr : PySem.W.nsIn K mainGlobals "repr" = some none)
    (z_tuple : PySem.W.nsIn K mainGlobals "tuple" = some none)
    : ∃ fd : FuncData, (∀ (s : Shared) (v : Value), BindsTo s fd ⟨[v], []⟩ [("_law_script", v)]) ∧ ∀ base : Heap, K.In base → base.Ns mainGlobals mg → FnG l.prog w K mg base 7 fa fd ["_law_script"] (spLaw K) := by
  have e := hfa.symm.trans (PySem.W.mg_of X G a_law)
  cases e
  have F_Number_init : FunD K "__init__" "Number.__init__" (defArgs s_Number_init) (defBody s_Number_init) (defScope s_Number_init) [V.int 1] [] f_Number_init _ := ⟨⟨_, _, _, _, _, _, _, _, _, _, rfl, l_Number_init, c_Number_init, .inr ⟨by simp, Td_Number_init, _, _, _, rfl, T_Number_init, rfl, .cons ⟨_, rfl⟩ .nil⟩, .inl rfl⟩, k_Number_init⟩
  obtain ⟨b_Number_init2, ds_Number_init1, d_Number_init1, b_Number_init1⟩ := bi_Number_init F_Number_init
  have F_Number_eq := fun_mk (st := s_Number_eq) l_Number_eq c_Number_eq k_Number_eq
  have b_Number_eq := F_Number_eq.binds (ps := ["self", "other"]) fun _ _ _ _ _ _ us hl => match us, hl with | [_, _], _ => rfl
  have F_Number_repr := fun_mk (st := s_Number_repr) l_Number_repr c_Number_repr k_Number_repr
  have b_Number_repr := F_Number_repr.binds (ps := ["self"]) fun _ _ _ _ _ _ us hl => match us, hl with | [_], _ => rfl
  have F_Number_less := fun_mk (st := s_Number_less) l_Number_less c_Number_less k_Number_less
  have b_Number_less := F_Number_less.binds (ps := ["self", "other"]) fun _ _ _ _ _ _ us hl => match us, hl with | [_, _], _ => rfl
  have F_Number_times := fun_mk (st := s_Number_times) l_Number_times c_Number_times k_Number_times
  have b_Number_times := F_Number_times.binds (ps := ["self", "other"]) fun _ _ _ _ _ _ us hl => match us, hl with | [_, _], _ => rfl
  have F_Number_over := fun_mk (st := s_Number_over) l_Number_over c_Number_over k_Number_over
  have b_Number_over := F_Number_over.binds (ps := ["self", "other"]) fun _ _ _ _ _ _ us hl => match us, hl with | [_, _], _ => rfl
  have F_Number_below := fun_mk (st := s_Number_below) l_Number_below c_Number_below k_Number_below
  have b_Number_below := F_Number_below.binds (ps := ["self", "other"]) fun _ _ _ _ _ _ us hl => match us, hl with | [_, _], _ => rfl
  have F_Number_floor := fun_mk (st := s_Number_floor) l_Number_floor c_Number_floor k_Number_floor
  have b_Number_floor := F_Number_floor.binds (ps := ["self"]) fun _ _ _ _ _ _ us hl => match us, hl with | [_], _ => rfl
  have F_neighbours := fun_mk (st := s_neighbours) l_neighbours c_neighbours k_neighbours
  have b_neighbours := F_neighbours.binds (ps := ["number", "step"]) fun _ _ _ _ _ _ us hl => match us, hl with | [_, _], _ => rfl
  have F_place_of := fun_mk (st := s_place_of) l_place_of c_place_of k_place_of
  have b_place_of := F_place_of.binds (ps := ["number", "step"]) fun _ _ _ _ _ _ us hl => match us, hl with | [_, _], _ => rfl
  have F_l_deck := fun_mk (st := s_l_deck) l_l_deck c_l_deck k_l_deck
  have b_l_deck := F_l_deck.binds (ps := ["_law_script"]) fun _ _ _ _ _ _ us hl => match us, hl with | [_], _ => rfl
  have F_l_draw := fun_mk (st := s_l_draw) l_l_draw c_l_draw k_l_draw
  have b_l_draw := F_l_draw.binds (ps := ["_law_deck_here", "_law_ways"]) fun _ _ _ _ _ _ us hl => match us, hl with | [_, _], _ => rfl
  have F_l_grain := fun_mk (st := s_l_grain) l_l_grain c_l_grain k_l_grain
  have b_l_grain := F_l_grain.binds (ps := ["_law_deck_here"]) fun _ _ _ _ _ _ us hl => match us, hl with | [_], _ => rfl
  have F_l_near := fun_mk (st := s_l_near) l_l_near c_l_near k_l_near
  have b_l_near := F_l_near.binds (ps := ["_law_deck_here", "_law_grain_here"]) fun _ _ _ _ _ _ us hl => match us, hl with | [_, _], _ => rfl
  have F_l_steps := fun_mk (st := s_l_steps) l_l_steps c_l_steps k_l_steps
  have b_l_steps := F_l_steps.binds (ps := ["_law_number", "_law_grain_here"]) fun _ _ _ _ _ _ us hl => match us, hl with | [_, _], _ => rfl
  have F_l_as := fun_mk (st := s_l_as) l_l_as c_l_as k_l_as
  have b_l_as := F_l_as.binds (ps := ["_law_top", "_law_bottom"]) fun _ _ _ _ _ _ us hl => match us, hl with | [_, _], _ => rfl
  have F_l_is := fun_mk (st := s_l_is) l_l_is c_l_is k_l_is
  have b_l_is := F_l_is.binds (ps := ["_law_found", "_law_top", "_law_bottom"]) fun _ _ _ _ _ _ us hl => match us, hl with | [_, _, _], _ => rfl
  have F_l_right := fun_mk (st := s_l_right) l_l_right c_l_right k_l_right
  have b_l_right := F_l_right.binds (ps := ["_law_number", "_law_grain_here", "_law_by"]) fun _ _ _ _ _ _ us hl => match us, hl with | [_, _, _], _ => rfl
  have F_law := fun_mk (st := s_law) l_law c_law k_law
  have b_law := F_law.binds (ps := ["_law_script"]) fun _ _ _ _ _ _ us hl => match us, hl with | [_], _ => rfl
  exact ⟨_, fun s v => .of_eq rfl, fun base _ _ => okG_law (w := w) (K := K) (mg := mg) {
    C_Number := C_Number,
    m_Number := PySem.W.mg_of X G aC_Number,
    c_Number := ⟨pg_Number, hd_Number, po_Number, sa_Number⟩,
    n_Number_top := nf_Number_top,
    n_Number_bottom := nf_Number_bottom,
    ty_Number_c := tc_Number,
    ty_Number_g := tg_Number,
    ty_Number_t := tt_Number,
    ty_Number_m := tm_Number,
    ty_Number_k := kit_self,
    ne_Number := nn_Number,
    f_Number_init := f_Number_init,
    fd_Number_init := _,
    F_Number_init := F_Number_init,
    mk_Number := ⟨mi_Number, a_Number_init, i_Number_init, kc_Number⟩,
    b_Number_init2 := b_Number_init2,
    ds_Number_init1 := ds_Number_init1,
    d_Number_init1 := d_Number_init1,
    b_Number_init1 := b_Number_init1,
    f_Number_eq := f_Number_eq,
    fd_Number_eq := _,
    F_Number_eq := F_Number_eq,
    me_Number_eq := ⟨a_Number_eq, i_Number_eq, k_Number_eq⟩,
    b_Number_eq := b_Number_eq,
    f_Number_repr := f_Number_repr,
    fd_Number_repr := _,
    F_Number_repr := F_Number_repr,
    me_Number_repr := ⟨a_Number_repr, i_Number_repr, k_Number_repr⟩,
    b_Number_repr := b_Number_repr,
    f_Number_less := f_Number_less,
    fd_Number_less := _,
    F_Number_less := F_Number_less,
    me_Number_less := ⟨a_Number_less, i_Number_less, k_Number_less⟩,
    b_Number_less := b_Number_less,
    f_Number_times := f_Number_times,
    fd_Number_times := _,
    F_Number_times := F_Number_times,
    me_Number_times := ⟨a_Number_times, i_Number_times, k_Number_times⟩,
    b_Number_times := b_Number_times,
    f_Number_over := f_Number_over,
    fd_Number_over := _,
    F_Number_over := F_Number_over,
    me_Number_over := ⟨a_Number_over, i_Number_over, k_Number_over⟩,
    b_Number_over := b_Number_over,
    f_Number_below := f_Number_below,
    fd_Number_below := _,
    F_Number_below := F_Number_below,
    me_Number_below := ⟨a_Number_below, i_Number_below, k_Number_below⟩,
    b_Number_below := b_Number_below,
    f_Number_floor := f_Number_floor,
    fd_Number_floor := _,
    F_Number_floor := F_Number_floor,
    me_Number_floor := ⟨a_Number_floor, i_Number_floor, k_Number_floor⟩,
    b_Number_floor := b_Number_floor,
    m_neighbours := PySem.W.mg_of X G a_neighbours,
    f_neighbours := f_neighbours,
    fd_neighbours := _,
    F_neighbours := F_neighbours,
    b_neighbours := b_neighbours,
    m_place_of := PySem.W.mg_of X G a_place_of,
    f_place_of := f_place_of,
    fd_place_of := _,
    F_place_of := F_place_of,
    b_place_of := b_place_of,
    m_l_deck := PySem.W.mg_of X G a_l_deck,
    f_l_deck := f_l_deck,
    fd_l_deck := _,
    F_l_deck := F_l_deck,
    b_l_deck := b_l_deck,
    m_l_draw := PySem.W.mg_of X G a_l_draw,
    f_l_draw := f_l_draw,
    fd_l_draw := _,
    F_l_draw := F_l_draw,
    b_l_draw := b_l_draw,
    m_l_grain := PySem.W.mg_of X G a_l_grain,
    f_l_grain := f_l_grain,
    fd_l_grain := _,
    F_l_grain := F_l_grain,
    b_l_grain := b_l_grain,
    m_l_near := PySem.W.mg_of X G a_l_near,
    f_l_near := f_l_near,
    fd_l_near := _,
    F_l_near := F_l_near,
    b_l_near := b_l_near,
    m_l_steps := PySem.W.mg_of X G a_l_steps,
    f_l_steps := f_l_steps,
    fd_l_steps := _,
    F_l_steps := F_l_steps,
    b_l_steps := b_l_steps,
    m_l_as := PySem.W.mg_of X G a_l_as,
    f_l_as := f_l_as,
    fd_l_as := _,
    F_l_as := F_l_as,
    b_l_as := b_l_as,
    m_l_is := PySem.W.mg_of X G a_l_is,
    f_l_is := f_l_is,
    fd_l_is := _,
    F_l_is := F_l_is,
    b_l_is := b_l_is,
    m_l_right := PySem.W.mg_of X G a_l_right,
    f_l_right := f_l_right,
    fd_l_right := _,
    F_l_right := F_l_right,
    b_l_right := b_l_right,
    m_law := PySem.W.mg_of X G a_law,
    f_law := _,
    fd_law := _,
    F_law := F_law,
    b_law := b_law,
    m_gcd := PySem.W.mg_of X G a_gcd,
    n_range := PySem.W.mg_none_of X G z_range,
    n_isinstance := PySem.W.mg_none_of X G z_isinstance,
    n_str := PySem.W.mg_none_of X G z_str,
    n_int := PySem.W.mg_none_of X G z_int,
    n_list := PySem.W.mg_none_of X G z_list,
    n_len := PySem.W.mg_none_of X G z_len,
    n_abs := PySem.W.mg_none_of X G z_abs,
    n_max := PySem.W.mg_none_of X G z_max,
    n_repr := PySem.W.mg_none_of X G z_repr,
    n_tuple := PySem.W.mg_none_of X G z_tuple }⟩
theorem walk {l : PySem.W.OpenLaw} {q : Program} {loose : List Str} {XP : (Str → Option Value) → Heap → Prop} {YP : World → Heap → Prop} {d : DefRec} {K : Params → PySem.W.Frag} (hn : l.most = some 63) (hdf : d.params.defaults = [])
    (hY : ∀ (w : World) (h : Heap), YP w h → (K w.params).In h)
    (F : ∀ (w : World) (mg : Str → Option Value) (fa : Addr) (h : Heap), (K w.params).In h → h.Ns mainGlobals mg → mg d.name = some (.ref fa) →
      ∃ fd : FuncData, (∀ (s : Shared) (u : Value), BindsTo s fd ⟨[u], []⟩ [("_law_script", u)]) ∧ ∀ base : Heap, (K w.params).In base → base.Ns mainGlobals mg → FnG l.prog w (K w.params) mg base 7 fa fd ["_law_script"] (spLaw (K w.params))) :
    PySem.W.WalkO q loose XP YP l.row.toRowW d [] (fun f vs => PySem.call f vs) :=
  walk_ofG (n := 63) (k := 7) (x := "_law_script") (sp := fun w => spLaw (K w.params)) hn (by decide) hdf ⟨rfl, by decide, by decide⟩ hY F (fun _ _ a ns hl hS => ⟨a, ns, rfl, hS, hl, fun _ => rfl⟩)
end My
open PySem PySem.W PyProof.Rows in
set_option maxRecDepth 100000 in
set_option maxHeartbeats 0 in
theorem PySem.Challenge.cw_figuretexts_k07_neighbours_told_holds : PySem.Challenge.rw_figuretexts_k07_neighbours_told.Holds := by
  w_on; o_law; k_head; (case hw => w_witness2)
  k_fill
  refine My.walk (l := PySem.Challenge.rw_figuretexts_k07_neighbours_told) rfl rfl (fun w h Y => PySem.W.kIn_of Y) ?F
  case F =>
    intro w mg fa h KX G hmg
    refine' My.all_mk KX G hmg ?aC_Number ?pg_Number ?hd_Number ?po_Number ?sa_Number ?nf_Number_top ?nf_Number_bottom ?tc_Number ?tg_Number ?tt_Number ?tm_Number ?nn_Number ?mi_Number ?kc_Number ?a_Number_init ?i_Number_init ?l_Number_init ?c_Number_init ?k_Number_init ?T_Number_init ?a_Number_eq ?i_Number_eq ?l_Number_eq ?c_Number_eq ?k_Number_eq ?a_Number_repr ?i_Number_repr ?l_Number_repr ?c_Number_repr ?k_Number_repr ?a_Number_less ?i_Number_less ?l_Number_less ?c_Number_less ?k_Number_less ?a_Number_times ?i_Number_times ?l_Number_times ?c_Number_times ?k_Number_times ?a_Number_over ?i_Number_over ?l_Number_over ?c_Number_over ?k_Number_over ?a_Number_below ?i_Number_below ?l_Number_below ?c_Number_below ?k_Number_below ?a_Number_floor ?i_Number_floor ?l_Number_floor ?c_Number_floor ?k_Number_floor ?a_neighbours ?l_neighbours ?c_neighbours ?k_neighbours ?a_place_of ?l_place_of ?c_place_of ?k_place_of ?a_l_deck ?l_l_deck ?c_l_deck ?k_l_deck ?a_l_draw ?l_l_draw ?c_l_draw ?k_l_draw ?a_l_grain ?l_l_grain ?c_l_grain ?k_l_grain ?a_l_near ?l_l_near ?c_l_near ?k_l_near ?a_l_steps ?l_l_steps ?c_l_steps ?k_l_steps ?a_l_as ?l_l_as ?c_l_as ?k_l_as ?a_l_is ?l_l_is ?c_l_is ?k_l_is ?a_l_right ?l_l_right ?c_l_right ?k_l_right ?a_law ?l_law ?c_law ?k_law ?a_gcd ?z_range ?z_isinstance ?z_str ?z_int ?z_list ?z_len ?z_abs ?z_max ?z_repr ?z_tuple
    (case aC_Number => k_is)
    (case pg_Number => k_is)
    (case hd_Number => k_is)
    (case po_Number => k_is)
    (case sa_Number => k_is)
    (case nf_Number_top => k_is)
    (case nf_Number_bottom => k_is)
    (case tc_Number => k_is)
    (case tg_Number => k_is)
    (case tt_Number => k_is)
    (case tm_Number => k_is)
    (case nn_Number => k_is)
    (case mi_Number => k_is)
    (case kc_Number => k_is)
    (case a_Number_init => k_is)
    (case i_Number_init => k_is)
    (case l_Number_init => k_is)
    (case c_Number_init => k_is)
    (case k_Number_init => k_is)
    (case T_Number_init => k_is)
    (case a_Number_eq => k_is)
    (case i_Number_eq => k_is)
    (case l_Number_eq => k_is)
    (case c_Number_eq => k_is)
    (case k_Number_eq => k_is)
    (case a_Number_repr => k_is)
    (case i_Number_repr => k_is)
    (case l_Number_repr => k_is)
    (case c_Number_repr => k_is)
    (case k_Number_repr => k_is)
    (case a_Number_less => k_is)
    (case i_Number_less => k_is)
    (case l_Number_less => k_is)
    (case c_Number_less => k_is)
    (case k_Number_less => k_is)
    (case a_Number_times => k_is)
    (case i_Number_times => k_is)
    (case l_Number_times => k_is)
    (case c_Number_times => k_is)
    (case k_Number_times => k_is)
    (case a_Number_over => k_is)
    (case i_Number_over => k_is)
    (case l_Number_over => k_is)
    (case c_Number_over => k_is)
    (case k_Number_over => k_is)
    (case a_Number_below => k_is)
    (case i_Number_below => k_is)
    (case l_Number_below => k_is)
    (case c_Number_below => k_is)
    (case k_Number_below => k_is)
    (case a_Number_floor => k_is)
    (case i_Number_floor => k_is)
    (case l_Number_floor => k_is)
    (case c_Number_floor => k_is)
    (case k_Number_floor => k_is)
    (case a_neighbours => k_is)
    (case l_neighbours => k_is)
    (case c_neighbours => k_is)
    (case k_neighbours => k_is)
    (case a_place_of => k_is)
    (case l_place_of => k_is)
    (case c_place_of => k_is)
    (case k_place_of => k_is)
    (case a_l_deck => k_is)
    (case l_l_deck => k_is)
    (case c_l_deck => k_is)
    (case k_l_deck => k_is)
    (case a_l_draw => k_is)
    (case l_l_draw => k_is)
    (case c_l_draw => k_is)
    (case k_l_draw => k_is)
    (case a_l_grain => k_is)
    (case l_l_grain => k_is)
    (case c_l_grain => k_is)
    (case k_l_grain => k_is)
    (case a_l_near => k_is)
    (case l_l_near => k_is)
    (case c_l_near => k_is)
    (case k_l_near => k_is)
    (case a_l_steps => k_is)
    (case l_l_steps => k_is)
    (case c_l_steps => k_is)
    (case k_l_steps => k_is)
    (case a_l_as => k_is)
    (case l_l_as => k_is)
    (case c_l_as => k_is)
    (case k_l_as => k_is)
    (case a_l_is => k_is)
    (case l_l_is => k_is)
    (case c_l_is => k_is)
    (case k_l_is => k_is)
    (case a_l_right => k_is)
    (case l_l_right => k_is)
    (case c_l_right => k_is)
    (case k_l_right => k_is)
    (case a_law => k_is)
    (case l_law => k_is)
    (case c_law => k_is)
    (case k_law => k_is)
    (case a_gcd => k_is)
    (case z_range => k_is)
    (case z_isinstance => k_is)
    (case z_str => k_is)
    (case z_int => k_is)
    (case z_list => k_is)
    (case z_len => k_is)
    (case z_abs => k_is)
    (case z_max => k_is)
    (case z_repr => k_is)
    (case z_tuple => k_is)
