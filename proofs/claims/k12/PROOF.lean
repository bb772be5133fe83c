import PyProof.Rows.All
import Wide.All
import OpenK.AllK
import Wide.FinOn
import HandS.ForMost
import HandS.Wide
import HandS.WideBits
import HandS.Dict
import HandS.OwnEq
import PyProof.SeqRoads2
import HandS.Gcd
import HandS.Defaults
import HandS.CallLocal
import HandS.Style
import HandS.IsInst
import HandS.More
import HandS.TupAny
import HandS.StrMore
import HandS.Codes
import HandS.FStr
import PySem.Challenge.RW_figuretexts_k12_papers_of_roundings_by_a

set_option Elab.async false
set_option linter.all false
set_option maxRecDepth 100000
set_option maxHeartbeats 4000000

namespace My
/-! numbers as Rat -/
def cdiv (t b : Int) : Int := if b < 0 then -((Nat.gcd t.natAbs b.natAbs : Nat) : Int) else ((Nat.gcd t.natAbs b.natAbs : Nat) : Int)
theorem gcd_pos {t b : Int} (h : b ≠ 0) : 0 < Nat.gcd t.natAbs b.natAbs := Nat.gcd_pos_of_pos_right _ (by omega)
theorem num_of {t b : Int} (h : b ≠ 0) : t.fdiv (cdiv t b) = (Rat.divInt t b).num := by
  have g := gcd_pos (t := t) h
  have d1 : ((Nat.gcd t.natAbs b.natAbs : Nat) : Int) ∣ t := Int.dvd_trans (Int.natCast_dvd_natCast.mpr (Nat.gcd_dvd_left _ _)) (Int.natAbs_dvd.mpr (Int.dvd_refl _))
  rw [Rat.num_divInt]
  have e : ((Int.gcd b t : Nat) : Int) = ((Nat.gcd t.natAbs b.natAbs : Nat) : Int) := by
    rw [Int.gcd_comm]; rfl
  rw [e]
  unfold cdiv
  obtain ⟨k, hk⟩ := d1
  have gn : ((Nat.gcd t.natAbs b.natAbs : Nat) : Int) ≠ 0 := by omega
  generalize ((Nat.gcd t.natAbs b.natAbs : Nat) : Int) = G at *
  subst hk
  by_cases hb : b < 0
  · rw [if_pos hb, Int.sign_eq_neg_one_of_neg hb]
    rw [show G * k = (-G) * (-k) by rw [Int.neg_mul_neg], Int.mul_fdiv_cancel_left _ (by omega)]
    rw [show -1 * (-G * -k) = G * (-k) by rw [Int.neg_mul_neg]; rw [Int.neg_one_mul, Int.mul_neg], Int.mul_ediv_cancel_left _ gn]
  · have hb' : 0 < b := by omega
    rw [if_neg hb, Int.sign_eq_one_of_pos hb', Int.one_mul, Int.mul_fdiv_cancel_left _ gn, Int.mul_ediv_cancel_left _ gn]
theorem den_of {t b : Int} (h : b ≠ 0) : b.fdiv (cdiv t b) = ((Rat.divInt t b).den : Int) := by
  have g := gcd_pos (t := t) h
  have d1 : ((Nat.gcd t.natAbs b.natAbs : Nat) : Int) ∣ b := Int.dvd_trans (Int.natCast_dvd_natCast.mpr (Nat.gcd_dvd_right _ _)) (Int.natAbs_dvd.mpr (Int.dvd_refl _))
  rw [Rat.den_divInt, if_neg h]
  have e : (Int.gcd b t : Nat) = (Nat.gcd t.natAbs b.natAbs : Nat) := by
    rw [Int.gcd_comm]; rfl
  rw [e, Int.natCast_ediv]
  unfold cdiv
  obtain ⟨k, hk⟩ := d1
  have gn : ((Nat.gcd t.natAbs b.natAbs : Nat) : Int) ≠ 0 := by omega
  have gp : 0 < ((Nat.gcd t.natAbs b.natAbs : Nat) : Int) := by omega
  generalize hG : ((Nat.gcd t.natAbs b.natAbs : Nat) : Int) = G at *
  by_cases hb : b < 0
  · rw [if_pos hb, show ((b.natAbs : Nat) : Int) = -b by omega]
    rw [hk, show G * k = (-G) * (-k) by rw [Int.neg_mul_neg], Int.mul_fdiv_cancel_left _ (by omega)]
    rw [show -(-G * -k) = G * (-k) by rw [Int.neg_mul_neg, Int.mul_neg], Int.mul_ediv_cancel_left _ gn]
  · rw [if_neg hb, show ((b.natAbs : Nat) : Int) = b by omega, hk, Int.mul_fdiv_cancel_left _ gn, Int.mul_ediv_cancel_left _ gn]

/-- top and bottom below 2 ^ n -/
def Bd (n : Nat) (q : Rat) : Prop := q.num.natAbs < 2 ^ n ∧ q.den < 2 ^ n
theorem Bd.mono {m n : Nat} {q : Rat} (h : Bd m q) (l : m ≤ n) : Bd n q :=
  ⟨Nat.lt_of_lt_of_le h.1 (Nat.pow_le_pow_right (by decide) l), Nat.lt_of_lt_of_le h.2 (Nat.pow_le_pow_right (by decide) l)⟩
theorem num_le (t b : Int) : (Rat.divInt t b).num.natAbs ≤ t.natAbs := by
  rw [Rat.num_divInt]
  refine Nat.le_trans (Int.natAbs_ediv_le_natAbs _ _) ?_
  rw [Int.natAbs_mul]
  rcases Int.lt_trichotomy b 0 with h | h | h
  · rw [Int.sign_eq_neg_one_of_neg h]; simp
  · subst h; simp
  · rw [Int.sign_eq_one_of_pos h]; simp
theorem den_le {t b : Int} (h : b ≠ 0) : (Rat.divInt t b).den ≤ b.natAbs := by
  rw [Rat.den_divInt, if_neg h]
  exact Nat.div_le_self _ _
theorem Bd.of {n : Nat} {t b : Int} (h : b ≠ 0) (ht : t.natAbs < 2 ^ n) (hb : b.natAbs < 2 ^ n) : Bd n (Rat.divInt t b) :=
  ⟨Nat.lt_of_le_of_lt (num_le t b) ht, Nat.lt_of_le_of_lt (den_le h) hb⟩
theorem den_ne (q : Rat) : ((q.den : Nat) : Int) ≠ 0 := by have := q.den_pos; omega
theorem sub_eq (x y : Rat) : Rat.divInt (x.num * (y.den : Int) - y.num * (x.den : Int)) ((x.den : Int) * (y.den : Int)) = x - y := by
  rw [Rat.sub_def', ← Int.natCast_mul, Rat.divInt_ofNat]
theorem add_eq (x y : Rat) : Rat.divInt (x.num * (y.den : Int) + y.num * (x.den : Int)) ((x.den : Int) * (y.den : Int)) = x + y := by
  rw [Rat.add_def', ← Int.natCast_mul, Rat.divInt_ofNat]
theorem mul_eq (x y : Rat) : Rat.divInt (x.num * y.num) ((x.den : Int) * (y.den : Int)) = x * y := by
  rw [Rat.mul_def', ← Int.natCast_mul, Rat.divInt_ofNat]
theorem div_eq (x y : Rat) : Rat.divInt (x.num * (y.den : Int)) ((x.den : Int) * y.num) = x / y := by
  rw [Rat.div_def, Rat.inv_def, ← Rat.divInt_mul_divInt, Rat.num_divInt_den]
theorem num_ne {y : Rat} (h : y ≠ 0) : y.num ≠ 0 := fun e => h (Rat.num_eq_zero.mp e)
theorem floor_eq (x : Rat) : x.num.fdiv (x.den : Int) = x.floor := by
  rw [Rat.floor_def, Int.fdiv_eq_ediv_of_nonneg _ (by omega)]
theorem natAbs_mul_lt {a b : Int} {m n k : Nat} (ha : a.natAbs < 2 ^ m) (hb : b.natAbs < 2 ^ n) (h : m + n ≤ k) : (a * b).natAbs < 2 ^ k := by
  rw [Int.natAbs_mul]
  exact Nat.lt_of_lt_of_le (Nat.mul_lt_mul'' ha hb) (by rw [← Nat.pow_add]; exact Nat.pow_le_pow_right (by decide) h)
theorem natAbs_sub_lt {a b : Int} {k : Nat} (ha : a.natAbs < 2 ^ k) (hb : b.natAbs < 2 ^ k) : (a - b).natAbs < 2 ^ (k + 1) := by
  rw [Nat.pow_succ]; omega
theorem natAbs_add_lt {a b : Int} {k : Nat} (ha : a.natAbs < 2 ^ k) (hb : b.natAbs < 2 ^ k) : (a + b).natAbs < 2 ^ (k + 1) := by
  rw [Nat.pow_succ]; omega
theorem Bd.sub {m n : Nat} {x y : Rat} (hx : Bd m x) (hy : Bd n y) : Bd (m + n + 1) (x - y) := by
  rw [← sub_eq]
  refine Bd.of (Int.mul_ne_zero (den_ne x) (den_ne y)) ?_ ?_
  · exact natAbs_sub_lt (natAbs_mul_lt (m := m) (n := n) hx.1 (by have := hy.2; omega) (Nat.le_refl _)) (natAbs_mul_lt (m := n) (n := m) hy.1 (by have := hx.2; omega) (by omega))
  · exact natAbs_mul_lt (m := m) (n := n) (by have := hx.2; omega) (by have := hy.2; omega) (by omega)
theorem Bd.mul {m n : Nat} {x y : Rat} (hx : Bd m x) (hy : Bd n y) : Bd (m + n) (x * y) := by
  rw [← mul_eq]
  exact Bd.of (Int.mul_ne_zero (den_ne x) (den_ne y)) (natAbs_mul_lt hx.1 hy.1 (Nat.le_refl _)) (natAbs_mul_lt (m := m) (n := n) (by have := hx.2; omega) (by have := hy.2; omega) (by omega))
theorem Bd.div {m n : Nat} {x y : Rat} (hx : Bd m x) (hy : Bd n y) (h : y ≠ 0) : Bd (m + n) (x / y) := by
  rw [← div_eq]
  exact Bd.of (Int.mul_ne_zero (den_ne x) (num_ne h)) (natAbs_mul_lt (m := m) (n := n) hx.1 (by have := hy.2; omega) (Nat.le_refl _)) (natAbs_mul_lt (m := m) (n := n) (by have := hx.2; omega) hy.1 (by omega))
theorem Bd.int {n : Nat} {i : Int} (h : i.natAbs < 2 ^ n) (h1 : 1 ≤ n) : Bd n (i : Rat) := ⟨h, by
  show 1 < 2 ^ n
  exact Nat.lt_of_lt_of_le (by decide) (Nat.pow_le_pow_right (by decide) h1)⟩
theorem floor_bd {n : Nat} {x : Rat} (h : Bd n x) : x.floor.natAbs < 2 ^ n := by
  rw [Rat.floor_def]
  exact Nat.lt_of_le_of_lt (Int.natAbs_ediv_le_natAbs _ _) h.1
theorem divInt_one (i : Int) : Rat.divInt i 1 = (i : Rat) := by
  have := Rat.divInt_ofNat i 1
  rw [show ((1 : Nat) : Int) = 1 from rfl] at this
  rw [this, Rat.mkRat_eq_div]; simp
  grind

/-! the ways -/
inductive Way where
  | up | down | high | low | hup | hdown | heven | hodd
def nearerB (part : Rat) (a : Bool) : Bool := if 2 * part.num = (part.den : Int) then a else decide ((part.den : Int) < 2 * part.num)
def ruleB : Way → Int → Rat → Bool
  | .up, l, _ => decide (0 ≤ l)
  | .down, l, _ => decide (l < 0)
  | .high, _, _ => true
  | .low, _, _ => false
  | .hup, l, p => nearerB p (decide (0 ≤ l))
  | .hdown, l, p => nearerB p (decide (l < 0))
  | .heven, l, p => nearerB p (decide (l % 2 = 1))
  | .hodd, l, p => nearerB p (decide (l % 2 = 0))
def partQ (n : Rat) : Rat := n - (n.floor : Rat)
def highQ (n : Rat) : Int := if (partQ n).num = 0 then n.floor else n.floor + 1
def takenQ (w : Way) (n : Rat) : Int := if (partQ n).num = 0 then n.floor else if ruleB w n.floor (partQ n) = true then n.floor + 1 else n.floor
theorem floor_add {c : Int} {f : Rat} (h0 : 0 ≤ f) (h1 : f < 1) : ((c : Rat) + f).floor = c := by
  have a : c ≤ ((c : Rat) + f).floor := Rat.le_floor_iff.mpr (by grind)
  have b : ((c : Rat) + f).floor < c + 1 := Rat.floor_lt_iff.mpr (by rw [Rat.intCast_add]; grind)
  omega
theorem part_add {c : Int} {f : Rat} (h0 : 0 ≤ f) (h1 : f < 1) : partQ ((c : Rat) + f) = f := by
  unfold partQ
  rw [floor_add h0 h1]
  grind
theorem taken_add {w : Way} {c : Int} {f : Rat} (h0 : 0 < f) (h1 : f < 1) : takenQ w ((c : Rat) + f) = if ruleB w c f = true then c + 1 else c := by
  unfold takenQ
  rw [part_add (Rat.le_of_lt h0) h1, floor_add (Rat.le_of_lt h0) h1, if_neg (num_ne (by grind))]
/-- a number of whole and part steps -/
theorem steps_eq {a b c p0 p1 : Int} (ha : a ≠ 0) (hb : b ≠ 0) (h1 : p1 ≠ 0) : Rat.divInt (a * (c * p1 + p0)) (b * p1) / Rat.divInt a b = (c : Rat) + Rat.divInt p0 p1 := by
  simp only [Rat.divInt_eq_div, Rat.intCast_mul, Rat.intCast_add]
  have ha' : (a : Rat) ≠ 0 := by simpa using ha
  have hb' : (b : Rat) ≠ 0 := by simpa using hb
  have h1' : (p1 : Rat) ≠ 0 := by simpa using h1
  grind
end My

namespace My
open PySem L2
/-! readings, one head at a time -/
section
variable {σ : L2.St} {H : Hp} {Q : VK} {QB : Bool → Hp → Prop} {QA : List V → Hp → Prop} {QS : L2.St → Hp → Prop} {v x y : V} {ta tb te tc : TE} {tr : TA} {t u : TS} {c d : TT} {g : TG} {i : Nat} {K : PySem.W.Frag} {b : Bool}
  {nx : L2.St → Hp → Prop} {rt : VK} {bk ct : L2.St → Hp → Prop}
theorem r_var (q : ∃ v, σ[i]? = some (some v) ∧ Q v H) : tVar i σ H Q := q
theorem r_c (q : Q v H) : tC v σ H Q := q
theorem r_op {r : R2} (q : ta σ H fun x H1 => tb σ H1 fun y H2 => r x y H2 Q) : tOp r ta tb σ H Q := q
theorem r_un {r : V → Hp → VK → Prop} (q : ta σ H fun x H1 => r x H1 Q) : tUn r ta σ H Q := q
theorem r_U {f : Int → V} {i : Int} (q : Q (f i) H) : rU f (.int i) H Q := ⟨i, rfl, q⟩
theorem r_I0 {f : Int → Int → V} {i j : Int} (q : Q (f i j) H) : rI0 f (.int i) (.int j) H Q := ⟨i, j, rfl, rfl, q⟩
theorem r_I {C : Int → Int → Prop} {f : Int → Int → V} {i j : Int} (h : C i j) (q : Q (f i j) H) : rI C f (.int i) (.int j) H Q := ⟨i, j, rfl, rfl, h, q⟩
theorem r_eq (h : scal x y = true) (q : Q (.bl (decide (x = y))) H) : rEq x y H Q := ⟨h, q⟩
theorem r_ne (h : scal x y = true) (q : Q (.bl (!decide (x = y))) H) : rNe x y H Q := ⟨h, q⟩
theorem r_eqI {i j : Int} (q : Q (.bl (decide (i = j))) H) : rEq (.int i) (.int j) H Q := ⟨rfl, by
  have e : decide (V.int i = V.int j) = decide (i = j) := by simp
  rw [e]; exact q⟩
theorem r_neI {i j : Int} (q : Q (.bl (!decide (i = j))) H) : rNe (.int i) (.int j) H Q := ⟨rfl, by
  have e : decide (V.int i = V.int j) = decide (i = j) := by simp
  rw [e]; exact q⟩
theorem r_eqS {i j : Str} (q : Q (.bl (decide (i = j))) H) : rEq (.str i) (.str j) H Q := ⟨rfl, by
  have e : decide (V.str i = V.str j) = decide (i = j) := by simp
  rw [e]; exact q⟩
theorem r_eqB {i j : Bool} (q : Q (.bl (decide (i = j))) H) : rEq (.bl i) (.bl j) H Q := ⟨rfl, by
  have e : decide (V.bl i = V.bl j) = decide (i = j) := by simp
  rw [e]; exact q⟩
theorem r_test (q : te σ H fun x H' => ∃ k, x = .bl k ∧ QB k H') : tTest te σ H QB := q
theorem r_B (q : te σ H fun x H' => ∃ k, x = .bl k ∧ QB k H') : tB te σ H QB := q
theorem r_k {P : Bool → Prop} (q : P b) : ∃ k, V.bl b = .bl k ∧ P k := ⟨b, rfl, q⟩
theorem r_and (q : c σ H fun b H1 => if b = true then d σ H1 QB else QB false H1) : tAnd c d σ H QB := q
theorem r_or (q : c σ H fun b H1 => if b = true then QB true H1 else d σ H1 QB) : tOr c d σ H QB := q
theorem r_not (q : c σ H fun b H1 => QB (!b) H1) : tNot c σ H QB := q
theorem r_andV (q : ta σ H fun x H1 => ∃ c, x = .bl c ∧ if c = true then tb σ H1 Q else Q (.bl false) H1) : tAndV ta tb σ H Q := q
theorem r_orV (q : ta σ H fun x H1 => ∃ c, x = .bl c ∧ if c = true then Q (.bl true) H1 else tb σ H1 Q) : tOrV ta tb σ H Q := q
theorem r_notV (q : ta σ H fun x H1 => ∃ c, x = .bl c ∧ Q (.bl (!c)) H1) : tNotV ta σ H Q := q
theorem r_if (q : c σ H fun b H1 => if b = true then ta σ H1 Q else tb σ H1 Q) : tIf c ta tb σ H Q := q
theorem r_seq (q : t ⟨u ⟨nx, rt, bk, ct⟩, rt, bk, ct⟩ σ H) : tSeq t u ⟨nx, rt, bk, ct⟩ σ H := q
theorem r_asg (q : te σ H fun x H1 => g x σ H1 nx) : tAsg te g ⟨nx, rt, bk, ct⟩ σ H := q
theorem r_name (q : QS (σ.set i (some v)) H) : gName i v σ H QS := q
theorem r_ifs (q : c σ H fun b H1 => if b = true then t ⟨nx, rt, bk, ct⟩ σ H1 else u ⟨nx, rt, bk, ct⟩ σ H1) : tIfS c t u ⟨nx, rt, bk, ct⟩ σ H := q
theorem r_ret (q : te σ H rt) : tRet te ⟨nx, rt, bk, ct⟩ σ H := q
theorem r_next (q : nx σ H) : tNext ⟨nx, rt, bk, ct⟩ σ H := q
theorem r_drop (q : te σ H fun _ H1 => nx σ H1) : tDrop te ⟨nx, rt, bk, ct⟩ σ H := q
theorem r_cons (q : te σ H fun x H1 => tr σ H1 fun xs H2 => QA (x :: xs) H2) : tCons te tr σ H QA := q
theorem r_nil (q : QA [] H) : tNil σ H QA := q
theorem r_tup (q : tr σ H fun xs H1 => xs.length ≤ sizeLine ∧ ∀ p, H1 p = none → Q (.ref p) (upd H1 p (.tup xs))) : tTup tr σ H Q := q
theorem r_lst (q : tr σ H fun xs H1 => xs.length ≤ sizeLine ∧ ∀ p, H1 p = none → Q (.ref p) (upd H1 p (.lst xs))) : tLst tr σ H Q := q
theorem r_new {n : Nat} {P : Prop} (h : n ≤ 1000) (q : P) : n ≤ sizeLine ∧ P := ⟨Nat.le_trans h (by decide), q⟩
theorem r_fldT {f : Str} (q : ta σ H fun x H1 => ∃ a C dx fs v, x = .ref a ∧ H1 a = some (.ins C dx fs) ∧ Cls K C ∧ NoAttr K C f ∧ fs.lookup f = some v ∧ Q v H1) : tFld K ta f σ H Q := q
theorem r_fld {f : Str} {p C dx : Addr} {fs : List (Str × V)} (h : H p = some (.ins C dx fs)) (k : Cls K C) (n : NoAttr K C f) (l : fs.lookup f = some v) {P : V → Prop} (q : P v) :
    ∃ a C dx fs v, V.ref p = .ref a ∧ H a = some (.ins C dx fs) ∧ Cls K C ∧ NoAttr K C f ∧ fs.lookup f = some v ∧ P v := ⟨p, C, dx, fs, v, rfl, h, k, n, l, q⟩
theorem r_sFld {f : Str} (q : te σ H fun y H1 => ta σ H1 fun x H2 => ∃ a C dx fs, x = .ref a ∧ H2 a = some (.ins C dx fs) ∧ Cls K C ∧ NoAttr K C f ∧ fs.length < 1000 ∧ nx σ (upd H2 a (.ins C dx (putF f y fs)))) : sFld K ta te f ⟨nx, rt, bk, ct⟩ σ H := q
theorem r_call {sp : Sp} {dvs : List V} {E : XK} (q : tr σ H fun vs H1 => sp (vs ++ dvs) H1 Q E) : tCall sp dvs E tr σ H Q := q
theorem r_CB {r : List V → Hp → VK → Prop} (q : tr σ H fun vs H1 => r vs H1 Q) : tCB r tr σ H Q := q
theorem r_meth {C : Addr} {m : Str} {sp : Sp} {dvs : List V} {E : XK} (q : ta σ H fun x H1 => ∃ a dx fs, x = .ref a ∧ H1 a = some (.ins C dx fs) ∧ fs.lookup m = none ∧ tr σ H1 fun vs H2 => sp (x :: (vs ++ dvs)) H2 Q E) : tMeth C m sp dvs E ta tr σ H Q := q
theorem r_meth1 {C : Addr} {m : Str} {P : Prop} {p dx : Addr} {fs : List (Str × V)} (h : H p = some (.ins C dx fs)) (l : fs.lookup m = none) (q : P) : ∃ a dx fs, V.ref p = .ref a ∧ H a = some (.ins C dx fs) ∧ fs.lookup m = none ∧ P := ⟨p, dx, fs, rfl, h, l, q⟩
theorem r_make {C : Addr} {sp : Sp} {dvs : List V} {E : XK} (q : tr σ H fun vs H1 => ∀ x dx, H1 x = none → H1 dx = none → dx ≠ x → sp (.ref x :: (vs ++ dvs)) (upd (upd H1 dx (.own x)) x (.ins C dx [])) (fun v H2 => v = .non ∧ Q (.ref x) H2) E) : tMake C sp dvs E tr σ H Q := q
theorem r_callN {n m : Nat} {sp : Sp} {gV : List V → List V → List V} {E : XK} {tk : TA} (q : tr σ H fun vs H1 => tk σ H1 fun zs H2 => vs.length = n ∧ zs.length = m ∧ sp (gV vs zs) H2 Q E) : tCallN n m sp gV E tr tk σ H Q := q
theorem r_ixT {p : Addr} {xs : List V} {i : Int} (h : H p = some (.tup xs)) (a : atI xs i = some v) (q : Q v H) : rIxT K (.ref p) (.int i) H Q := ⟨p, xs, i, v, rfl, rfl, SqT.of h, a, q⟩
theorem r_ixL {p : Addr} {xs : List V} {i : Int} (h : H p = some (.lst xs)) (a : atI xs i = some v) (q : Q v H) : rIxL K (.ref p) (.int i) H Q := ⟨p, xs, i, v, rfl, rfl, SqL.of h, a, q⟩
theorem r_isi {vs : List V} (q : rIsi K vs H Q) : rIsi K vs H Q := q
theorem r_ite {A B : Prop} {k : Bool} (h1 : k = true → A) (h2 : k = false → B) : if k = true then A else B := by
  cases k with
  | true => exact h1 rfl
  | false => exact h2 rfl
theorem r_iteT {A B : Prop} {k : Bool} (h : k = true) (q : A) : if k = true then A else B := by
  rw [if_pos h]; exact q
theorem r_iteF {A B : Prop} {k : Bool} (h : k = false) (q : B) : if k = true then A else B := by
  subst h; exact iteF q
end
/-! ### // by any number but nought -/
def CDivA (_ j : Int) : Prop := j ≠ 0 ∧ j.natAbs.log2 < 9000
theorem op_fdivA {X : Cx} : OpR X (binaryOp .FloorDiv) (rI CDivA fun i j => .int (i.fdiv j)) := opI fun i j _ _ _ _ _ hc q => PyProof.Rows.floordiv_int hc.1 q (.inl (PyProof.noPylong_of_log2 hc.2))
theorem cdivA {i j : Int} {b : Nat} (h : j ≠ 0) (hb : j.natAbs < 2 ^ b) (h0 : 0 < b) (h9 : b ≤ 9000) : CDivA i j := ⟨h, Nat.lt_of_lt_of_le (PySem.Flt.log2_lt_of h0 hb) h9⟩
/-! ### heaps but for two places -/
def Off (d c : Addr) (H H' : Hp) : Prop := ∀ b o, b ≠ d → b ≠ c → H b = some o → H' b = some o
theorem Off.refl (d c : Addr) (H : Hp) : Off d c H H := fun _ _ _ _ h => h
theorem Off.trans {d c : Addr} {H H1 H2 : Hp} (a : Off d c H H1) (b : Off d c H1 H2) : Off d c H H2 := fun x o h1 h2 h => b x o h1 h2 (a x o h1 h2 h)
theorem Off.of {d c : Addr} {H H' : Hp} (a : Same H H') : Off d c H H' := fun x o _ _ h => a x o h
theorem Same.new {H : Hp} {p : Addr} {o : HO} (h : H p = none) : Same H (upd H p o) := fun b u e => by
  rw [upd_ne (ne_of_none e h)]
  exact e
/-! ### more heads -/
section
variable {σ : L2.St} {H : Hp} {Q : VK} {QA : List V → Hp → Prop} {QS : L2.St → Hp → Prop} {QO : Option Int → Hp → Prop} {v x y : V} {te ta to ti : TE} {tr : TA} {tl th : TO} {K : PySem.W.Frag} {nx : L2.St → Hp → Prop} {rt : VK} {bk ct : L2.St → Hp → Prop}
theorem r_gsub {t : TSet} (q : to σ H fun o H1 => ti σ H1 fun i H2 => t o i v H2 fun H3 => QS σ H3) : gSub to ti t v σ H QS := q
theorem r_setL {p : Addr} {xs : List V} {k : Int} {j : Nat} {R : Hp → Prop} (h : H p = some (.lst xs)) (e : ixN xs.length k = some j) (q : R (upd H p (.lst (xs.set j v)))) : rSetL (.ref p) (.int k) v H R := ⟨p, xs, k, j, rfl, rfl, h, e, q⟩
theorem r_sl {r : V → Option Int → Option Int → Hp → VK → Prop} (q : te σ H fun x H1 => tl σ H1 fun l H2 => th σ H2 fun u H3 => r x l u H3 Q) : tSl r te tl th σ H Q := q
theorem r_noPart (q : QO none H) : tNoPart σ H QO := q
theorem r_part (q : te σ H fun x H1 => ∃ i, x = .int i ∧ QO (some i) H1) : tPart te σ H QO := q
theorem r_ki {P : Int → Prop} {i : Int} (q : P i) : ∃ k, V.int i = .int k ∧ P k := ⟨i, rfl, q⟩
theorem r_bm0 {T : String} {r : V → List V → Hp → VK → Prop} (q : te σ H fun x H1 => tyV K T x H1 ∧ r x [] H1 Q) : tBM0 K T r te σ H Q := q
theorem r_bm {T : String} {r : V → List V → Hp → VK → Prop} (q : te σ H fun x H1 => tyV K T x H1 ∧ tr σ H1 fun xs H2 => r x xs H2 Q) : tBM K T r te tr σ H Q := q
theorem r_rev (q : te σ H fun x H1 => ∃ a xs, x = .ref a ∧ SqL K H1 a xs ∧ ∀ p, H1 p = none → Q (.ref p) (upd H1 p (.lst xs.reverse))) : tRevL K te σ H Q := q
theorem ty_list {p : Addr} {xs : List V} (h : H p = some (.lst xs)) : tyV K "list" (.ref p) H := .inl ⟨rfl, _, SqL.of h⟩
theorem r_pop {p : Addr} {xs : List V} {y : V} (h : H p = some (.lst (xs ++ [y]))) (q : Q y (upd H p (.lst xs))) : rPop (.ref p) [] H Q := by
  refine ⟨p, xs ++ [y], y, rfl, rfl, h, by simp, ?_⟩
  rw [List.dropLast_concat]
  exact q
theorem r_append {p : Addr} {xs : List V} (h : H p = some (.lst xs)) (l : xs.length ≤ 1000) (q : Q .non (upd H p (.lst (xs ++ [y])))) : rAppend (.ref p) [y] H Q := ⟨p, xs, y, rfl, rfl, h, Nat.lt_of_le_of_lt l (by decide), q⟩
end
theorem dp_ints {K : PySem.W.Frag} {H : Hp} : ∀ xs : List Int, DpAll K H (xs.map V.int) (xs.map PyData.int)
  | [] => .nil
  | x :: xs => .cons (.int x) (dp_ints xs)
theorem lay_ints : ∀ xs : List Int, PyData.canLayAll0 (xs.map PyData.int) = true ∧ PyData.depthAll (xs.map PyData.int) = 0
  | [] => ⟨rfl, rfl⟩
  | x :: xs => by
    obtain ⟨a, b⟩ := lay_ints xs
    constructor
    · show (PyData.canLay0 (.int x) && PyData.canLayAll0 (xs.map PyData.int)) = true
      rw [a]; rfl
    · show max (PyData.depth (.int x)) (PyData.depthAll (xs.map PyData.int)) = 0
      rw [b]; rfl
theorem shaped_ints (xs : List Int) : SeqAt.shaped (.list (xs.map PyData.int)) = true := by
  obtain ⟨a, b⟩ := lay_ints xs
  have a' : PyData.canLay0 (.list (xs.map PyData.int)) = true := by rw [PyData.canLay0]; exact a
  have b' : PyData.depth (.list (xs.map PyData.int)) = 1 := by rw [PyData.depth, b]
  unfold SeqAt.shaped
  rw [a', b']; rfl
theorem eqv_ints : ∀ xs ys : List Int, PyData.eqvAll (xs.map PyData.int) (ys.map PyData.int) = decide (xs = ys)
  | [], [] => rfl
  | [], _ :: _ => by simp [PyData.eqvAll]
  | _ :: _, [] => by simp [PyData.eqvAll]
  | x :: xs, y :: ys => by
    show (PyData.eqv (.int x) (.int y) && PyData.eqvAll (xs.map PyData.int) (ys.map PyData.int)) = _
    rw [eqv_ints xs ys]
    show ((x == y) && decide (xs = ys)) = _
    rw [Bool.eq_iff_iff]; simp
theorem r_neInts {K : PySem.W.Frag} {H : Hp} {Q : VK} {p q : Addr} {xs ys : List Int} (h : SqL K H p (xs.map V.int)) (h' : SqL K H q (ys.map V.int)) (k : Q (.bl (!decide (xs = ys))) H) : rNeD K (.ref p) (.ref q) H Q :=
  ⟨.list (xs.map PyData.int), .list (ys.map PyData.int), .lst h (dp_ints xs), .lst h' (dp_ints ys), shaped_ints xs, shaped_ints ys, by
    rw [PyData.eqv, eqv_ints]; exact k⟩
theorem cut_ints (ns : List Int) (k : Int) : ∃ ms : List Int, cutV (ns.map V.int) none (some k) = ms.map V.int ∧ ms.length ≤ ns.length := by
  unfold cutV
  rw [← List.map_drop, ← List.map_take]
  exact ⟨_, rfl, by rw [List.length_take, List.length_drop]; omega⟩
end My
namespace My
open PySem L2
theorem r_forT {σ : L2.St} {H : Hp} {K : PySem.W.Frag} {tl : TE} {g : TG} {tb : TS} {D : Ends} (q : tl σ H fun x H1 => ∃ a, x = .ref a ∧ (∃ xs, SqT K H1 a xs) ∧ ∃ W : Nat → Nat → L2.St → Hp → Prop, (∃ m, W 0 m σ H1) ∧ ∀ i m σ H, W i m σ H →
    ((Itt K a).stop i H ∧ D.nx σ H) ∨ ((Itt K a).go i H ∧ ∃ N : L2.St → Hp → Prop, (∀ σ' H', N σ' H' → ∃ m', m' < m ∧ W (i + 1) m' σ' H') ∧ ∀ x H', (Itt K a).yld i H x H' → g x σ H' fun σ2 H2 => tb { D with nx := N, ct := N, bk := D.nx } σ2 H2)) : tFor (iTup K tl) g tb D σ H := q
end My

local macro_rules | `(tactic| walk_at "rd1") => `(tactic| first
  | with_reducible refine My.r_seq ?_
  | with_reducible refine My.r_asg ?_
  | with_reducible refine My.r_name ?_
  | with_reducible refine My.r_cons ?_
  | with_reducible refine My.r_nil ?_
  | with_reducible refine My.r_op ?_
  | ((with_reducible refine My.r_var ?_); refine ⟨_, rfl, ?_⟩)
  | with_reducible refine My.r_c ?_
  | with_reducible refine My.r_I0 ?_
  | with_reducible refine My.r_eqI ?_
  | with_reducible refine My.r_neI ?_
  | with_reducible refine My.r_eqS ?_
  | with_reducible refine My.r_eqB ?_
  | with_reducible refine My.r_test ?_
  | with_reducible refine My.r_B ?_
  | with_reducible refine My.r_k ?_
  | with_reducible refine My.r_un ?_
  | with_reducible refine My.r_U ?_
  | with_reducible refine My.r_ifs ?_
  | with_reducible refine My.r_ret ?_
  | with_reducible refine My.r_next ?_
  | with_reducible refine My.r_drop ?_
  | with_reducible refine My.r_CB ?_
  | with_reducible refine My.r_call ?_
  | with_reducible refine My.r_callN ?_
  | with_reducible refine My.r_meth ?_
  | with_reducible refine My.r_make ?_
  | with_reducible refine My.r_tup ?_
  | with_reducible refine My.r_lst ?_
  | with_reducible refine My.r_fldT ?_
  | with_reducible refine My.r_sFld ?_
  | with_reducible refine My.r_and ?_
  | with_reducible refine My.r_or ?_
  | with_reducible refine My.r_not ?_
  | with_reducible refine My.r_andV ?_
  | with_reducible refine My.r_orV ?_
  | with_reducible refine My.r_notV ?_
  | with_reducible refine My.r_if ?_
  | with_reducible refine My.r_gsub ?_
  | with_reducible refine My.r_sl ?_
  | with_reducible refine My.r_noPart ?_
  | with_reducible refine My.r_part ?_
  | with_reducible refine My.r_ki ?_
  | with_reducible refine My.r_bm0 ?_
  | with_reducible refine My.r_bm ?_
  | with_reducible refine My.r_rev ?_
  | ((with_reducible refine My.r_I ?_ ?_); (first | decide | exact .inl ⟨by decide, by decide⟩ | exact .inr ⟨by decide, by decide⟩ | exact ⟨by decide, by decide⟩ | exact ⟨by decide, by decide, by decide⟩)))
local macro_rules | `(tactic| walk_at "rd") => `(tactic| (repeat walk_at "rd1"))


namespace My
/-! ### rounded twice -/
def isHalf : Way → Bool
  | .heven | .hodd | .hup | .hdown => true
  | _ => false
/-- at the middle beyond l: whether up -/
def tieUp : Way → Int → Bool
  | .hup, l => decide (0 ≤ l)
  | .hdown, l => decide (l < 0)
  | .heven, l => decide (l % 2 = 1)
  | .hodd, l => decide (l % 2 = 0)
  | _, _ => false
theorem nearerB_lo {p : Rat} {a : Bool} (h : p < 1 / 2) : nearerB p a = false := by
  have d := p.den_pos
  have e : p.num * 2 < 1 * (p.den : Int) := by
    have := (Rat.lt_iff p (1 / 2)).mp h
    have h1 : ((1 : Rat) / 2).num = 1 := by decide +kernel
    have h2 : ((1 : Rat) / 2).den = 2 := by decide +kernel
    rw [h1, h2] at this
    exact this
  unfold nearerB
  rw [if_neg (by omega)]
  exact decide_eq_false (by omega)
theorem nearerB_hi {p : Rat} {a : Bool} (h : 1 / 2 < p) : nearerB p a = true := by
  have d := p.den_pos
  have e : 1 * (p.den : Int) < p.num * 2 := by
    have := (Rat.lt_iff (1 / 2) p).mp h
    have h1 : ((1 : Rat) / 2).num = 1 := by decide +kernel
    have h2 : ((1 : Rat) / 2).den = 2 := by decide +kernel
    rw [h1, h2] at this
    exact this
  unfold nearerB
  rw [if_neg (by omega)]
  exact decide_eq_true (by omega)
theorem nearerB_mid (a : Bool) : nearerB (1 / 2) a = a := by cases a <;> decide +kernel
theorem ruleB_lo {r : Way} (h : isHalf r = true) (l : Int) {p : Rat} (hp : p < 1 / 2) : ruleB r l p = false := by
  cases r <;> first | exact absurd h (by decide) | exact nearerB_lo hp
theorem ruleB_hi {r : Way} (h : isHalf r = true) (l : Int) {p : Rat} (hp : 1 / 2 < p) : ruleB r l p = true := by
  cases r <;> first | exact absurd h (by decide) | exact nearerB_hi hp
theorem ruleB_mid {r : Way} (h : isHalf r = true) (l : Int) : ruleB r l (1 / 2) = tieUp r l := by
  cases r <;> first | exact absurd h (by decide) | exact nearerB_mid _
theorem taken_int (r : Way) (c : Int) : takenQ r (c : Rat) = c := by
  have e : partQ (c : Rat) = 0 := by unfold partQ; rw [Rat.floor_intCast]; grind
  unfold takenQ
  rw [e, Rat.floor_intCast]
  rfl
/-- nearer than a half -/
theorem taken_near {r : Way} (h : isHalf r = true) {n : Rat} {t : Int} (h1 : (t : Rat) - 1 / 2 < n) (h2 : n < (t : Rat) + 1 / 2) : takenQ r n = t := by
  by_cases h0 : n = (t : Rat)
  · rw [h0]
    exact taken_int r t
  · by_cases hp : (t : Rat) < n
    · have e : n = (t : Rat) + (n - t) := by grind
      rw [e, taken_add (by grind) (by grind), ruleB_lo h t (by grind)]
      rfl
    · have e : n = ((t - 1 : Int) : Rat) + (n - t + 1) := by rw [Rat.intCast_sub]; grind
      rw [e, taken_add (by grind) (by grind), ruleB_hi h (t - 1) (by grind)]
      show t - 1 + 1 = t
      omega
theorem taken_mid {r : Way} (h : isHalf r = true) (l : Int) : takenQ r ((l : Rat) + 1 / 2) = if tieUp r l = true then l + 1 else l := by
  rw [taken_add (by decide +kernel) (by decide +kernel), ruleB_mid h l]
/-- every number is near one, or in the middle -/
theorem near_or_mid (n : Rat) : (∃ t : Int, (t : Rat) - 1 / 2 < n ∧ n < (t : Rat) + 1 / 2) ∨ ∃ l : Int, n = (l : Rat) + 1 / 2 := by
  have a := Rat.floor_le n
  have b := Rat.lt_floor_add_one n
  rw [Rat.intCast_add] at b
  by_cases h : n = (n.floor : Rat) + 1 / 2
  · exact .inr ⟨_, h⟩
  · by_cases h2 : n < (n.floor : Rat) + 1 / 2
    · exact .inl ⟨n.floor, by grind, h2⟩
    · exact .inl ⟨n.floor + 1, by rw [Rat.intCast_add]; grind, by rw [Rat.intCast_add]; grind⟩
def twiceT (r : Way) (m : Int) (u : Rat) : Int := takenQ r ((takenQ r u : Rat) / (m : Rat))
def onceT (r : Way) (m : Int) (u : Rat) : Int := takenQ r (u / (m : Rat))
theorem div_near {r : Way} (h : isHalf r = true) {m : Int} (hm : 0 < m) {s : Int} {n : Rat} (h1 : (s : Rat) * m - (m : Rat) / 2 < n) (h2 : n < (s : Rat) * m + (m : Rat) / 2) : takenQ r (n / (m : Rat)) = s := by
  have hm' : (0 : Rat) < (m : Rat) := Rat.intCast_pos.mpr hm
  refine taken_near h ?_ ?_
  · exact (Rat.lt_div_iff hm').mpr (by grind)
  · exact (Rat.div_lt_iff hm').mpr (by grind)
theorem div_mid {r : Way} (h : isHalf r = true) {m : Int} (hm : 0 < m) {s : Int} {n : Rat} (h1 : n = (s : Rat) * m + (m : Rat) / 2) : takenQ r (n / (m : Rat)) = if tieUp r s = true then s + 1 else s := by
  have hm' : (m : Rat) ≠ 0 := by have : (0 : Rat) < (m : Rat) := Rat.intCast_pos.mpr hm; grind
  rw [← taken_mid h s, h1]
  congr 1
  grind
theorem split_odd (j h : Int) (h0 : 0 ≤ h) : ∃ s e : Int, j = s * (2 * h + 1) + e ∧ -h ≤ e ∧ e ≤ h := by
  refine ⟨(j + h) / (2 * h + 1), (j + h) % (2 * h + 1) - h, ?_, ?_, ?_⟩
  · have := Int.mul_ediv_add_emod (j + h) (2 * h + 1)
    rw [Int.mul_comm] at this
    omega
  · have := Int.emod_nonneg (j + h) (b := 2 * h + 1) (by omega)
    omega
  · have := Int.emod_lt_of_pos (j + h) (b := 2 * h + 1) (by omega)
    omega
/-- by an odd number of steps -/
theorem never_odd {r : Way} (hr : isHalf r = true) {h : Int} (h0 : 0 ≤ h) (tie : ∀ s : Int, tieUp r (s * (2 * h + 1) + h) = tieUp r s) (u : Rat) : twiceT r (2 * h + 1) u = onceT r (2 * h + 1) u := by
  have hm : 0 < 2 * h + 1 := by omega
  have c : (((2 * h + 1 : Int)) : Rat) = 2 * (h : Rat) + 1 := by rw [Rat.intCast_add, Rat.intCast_mul]; rfl
  have hq : (0 : Rat) ≤ (h : Rat) := Rat.intCast_nonneg.mpr h0
  unfold twiceT onceT
  rcases near_or_mid u with ⟨j, h1, h2⟩ | ⟨l, hl⟩
  · obtain ⟨s, e, ej, e1, e2⟩ := split_odd j h h0
    have q1 : -(h : Rat) ≤ (e : Rat) := by have := Rat.intCast_le_intCast.mpr e1; rw [Rat.intCast_neg] at this; exact this
    have q2 : (e : Rat) ≤ (h : Rat) := Rat.intCast_le_intCast.mpr e2
    have ejq : (j : Rat) = (s : Rat) * (2 * (h : Rat) + 1) + (e : Rat) := by rw [ej, Rat.intCast_add, Rat.intCast_mul, c]
    rw [taken_near hr h1 h2, div_near hr hm (s := s) (by rw [c]; grind) (by rw [c]; grind), div_near hr hm (s := s) (by rw [c]; grind) (by rw [c]; grind)]
  · obtain ⟨s, e, ej, e1, e2⟩ := split_odd l h h0
    have q1 : -(h : Rat) ≤ (e : Rat) := by have := Rat.intCast_le_intCast.mpr e1; rw [Rat.intCast_neg] at this; exact this
    have ejq : (l : Rat) = (s : Rat) * (2 * (h : Rat) + 1) + (e : Rat) := by rw [ej, Rat.intCast_add, Rat.intCast_mul, c]
    subst hl
    rw [taken_mid hr l]
    by_cases he : e = h
    · subst he
      rw [ej, tie s]
      rw [div_mid hr hm (s := s) (n := ((s * (2 * e + 1) + e : Int) : Rat) + 1 / 2) (by rw [← ej, ejq, c]; grind)]
      cases tieUp r s with
      | true =>
        rw [if_pos rfl, if_pos rfl]
        exact div_near hr hm (by simp only [Rat.intCast_add, Rat.intCast_mul, Rat.intCast_sub, Rat.intCast_ofNat, Rat.intCast_one]; grind) (by simp only [Rat.intCast_add, Rat.intCast_mul, Rat.intCast_sub, Rat.intCast_ofNat, Rat.intCast_one]; grind)
      | false =>
        rw [if_neg Bool.false_ne_true, if_neg Bool.false_ne_true]
        exact div_near hr hm (by simp only [Rat.intCast_add, Rat.intCast_mul, Rat.intCast_sub, Rat.intCast_ofNat, Rat.intCast_one]; grind) (by simp only [Rat.intCast_add, Rat.intCast_mul, Rat.intCast_sub, Rat.intCast_ofNat, Rat.intCast_one]; grind)
    · have q2 : (e : Rat) + 1 ≤ (h : Rat) := by
        have := Rat.intCast_le_intCast.mpr (show e + 1 ≤ h by omega)
        rw [Rat.intCast_add] at this
        exact this
      rw [div_near hr hm (s := s) (n := (l : Rat) + 1 / 2) (by rw [c]; grind) (by rw [c]; grind)]
      split
      · exact div_near hr hm (by simp only [Rat.intCast_add, Rat.intCast_mul, Rat.intCast_sub, Rat.intCast_ofNat, Rat.intCast_one]; grind) (by simp only [Rat.intCast_add, Rat.intCast_mul, Rat.intCast_sub, Rat.intCast_ofNat, Rat.intCast_one]; grind)
      · exact div_near hr hm (by rw [c]; grind) (by rw [c]; grind)
/-! ### the ways that look at no halves -/
theorem low_eq (n : Rat) : takenQ .low n = n.floor := by
  unfold takenQ
  split <;> rfl
theorem part_zero {n : Rat} : (partQ n).num = 0 ↔ n = (n.floor : Rat) := by
  rw [Rat.num_eq_zero]
  unfold partQ
  constructor <;> intro h <;> grind
/-- the greater neighbour is told by inequalities -/
theorem high_of {n : Rat} {t : Int} (h1 : (t : Rat) - 1 < n) (h2 : n ≤ (t : Rat)) : takenQ .high n = t := by
  have a := Rat.floor_le n
  have b := Rat.lt_floor_add_one n
  rw [Rat.intCast_add] at b
  unfold takenQ
  by_cases h : n = (n.floor : Rat)
  · rw [if_pos (part_zero.mpr h)]
    have x1 : n.floor < t + 1 := Rat.intCast_lt_intCast.mp (by rw [Rat.intCast_add]; grind)
    have x2 : t - 1 < n.floor := Rat.intCast_lt_intCast.mp (by rw [Rat.intCast_sub]; grind)
    omega
  · rw [if_neg (fun z => h (part_zero.mp z)), if_pos (show ruleB .high n.floor (partQ n) = true from rfl)]
    have x1 : n.floor < t := Rat.intCast_lt_intCast.mp (by grind)
    have x2 : t - 1 < n.floor + 1 := Rat.intCast_lt_intCast.mp (by rw [Rat.intCast_sub, Rat.intCast_add]; grind)
    omega
theorem high_is (n : Rat) : (takenQ .high n : Rat) - 1 < n ∧ n ≤ (takenQ .high n : Rat) := by
  have a := Rat.floor_le n
  have b := Rat.lt_floor_add_one n
  rw [Rat.intCast_add] at b
  unfold takenQ
  by_cases h : n = (n.floor : Rat)
  · rw [if_pos (part_zero.mpr h)]
    grind
  · rw [if_neg (fun z => h (part_zero.mp z)), if_pos (show ruleB .high n.floor (partQ n) = true from rfl), Rat.intCast_add]
    grind
theorem low_of {n : Rat} {t : Int} (h1 : (t : Rat) ≤ n) (h2 : n < (t : Rat) + 1) : takenQ .low n = t := by
  rw [low_eq]
  have x1 : t ≤ n.floor := Rat.le_floor_iff.mpr h1
  have x2 : n.floor < t + 1 := Rat.floor_lt_iff.mpr (by rw [Rat.intCast_add]; exact h2)
  omega
theorem up_eq (n : Rat) : takenQ .up n = if 0 ≤ n.floor then takenQ .high n else takenQ .low n := by
  unfold takenQ
  by_cases h : (partQ n).num = 0
  · rw [if_pos h, if_pos h, if_pos h]; split <;> rfl
  · rw [if_neg h, if_neg h, if_neg h]
    show (if decide (0 ≤ n.floor) = true then _ else _) = _
    by_cases z : 0 ≤ n.floor
    · rw [if_pos (decide_eq_true z), if_pos z]; rfl
    · rw [if_neg (by simpa using z), if_neg z]; rfl
theorem down_eq (n : Rat) : takenQ .down n = if n.floor < 0 then takenQ .high n else takenQ .low n := by
  unfold takenQ
  by_cases h : (partQ n).num = 0
  · rw [if_pos h, if_pos h, if_pos h]; split <;> rfl
  · rw [if_neg h, if_neg h, if_neg h]
    show (if decide (n.floor < 0) = true then _ else _) = _
    by_cases z : n.floor < 0
    · rw [if_pos (decide_eq_true z), if_pos z]; rfl
    · rw [if_neg (by simpa using z), if_neg z]; rfl
theorem low_is (n : Rat) : (takenQ .low n : Rat) ≤ n ∧ n < (takenQ .low n : Rat) + 1 := by
  rw [low_eq]
  have b := Rat.lt_floor_add_one n
  rw [Rat.intCast_add] at b
  exact ⟨Rat.floor_le n, b⟩
/-- of a whole number of steps: by wholes alone -/
theorem low_div {m : Int} (hm : 0 < m) (u : Rat) : takenQ .low ((takenQ .low u : Rat) / (m : Rat)) = takenQ .low (u / (m : Rat)) := by
  have hm' : (0 : Rat) < (m : Rat) := Rat.intCast_pos.mpr hm
  obtain ⟨a, b⟩ := low_is (u / (m : Rat))
  obtain ⟨c, d⟩ := low_is u
  generalize takenQ .low (u / (m : Rat)) = t at *
  generalize takenQ .low u = j at *
  have e : u / (m : Rat) * m = u := by grind
  have a' : (t : Rat) * m ≤ u := by rw [← e]; exact Rat.mul_le_mul_of_nonneg_right a (Rat.le_of_lt hm')
  have b' : u < ((t : Rat) + 1) * m := by rw [← e]; exact Rat.mul_lt_mul_of_pos_right b hm'
  have x1 : t * m < j + 1 := Rat.intCast_lt_intCast.mp (by rw [Rat.intCast_add, Rat.intCast_mul]; grind)
  have x2 : j < (t + 1) * m := Rat.intCast_lt_intCast.mp (by rw [Rat.intCast_mul, Rat.intCast_add]; grind)
  have y1 : (t : Rat) * m ≤ (j : Rat) := by rw [← Rat.intCast_mul]; exact Rat.intCast_le_intCast.mpr (by omega)
  have y2 : (j : Rat) < ((t : Rat) + 1) * m := by have := Rat.intCast_lt_intCast.mpr x2; rw [Rat.intCast_mul, Rat.intCast_add] at this; exact this
  refine low_of ?_ ((Rat.div_lt_iff hm').mpr y2)
  have := (Rat.not_lt (a := (j : Rat) / m) (b := (t : Rat))).mp (fun z => by
    have := (Rat.div_lt_iff hm').mp z
    grind)
  exact this
theorem high_div {m : Int} (hm : 0 < m) (u : Rat) : takenQ .high ((takenQ .high u : Rat) / (m : Rat)) = takenQ .high (u / (m : Rat)) := by
  have hm' : (0 : Rat) < (m : Rat) := Rat.intCast_pos.mpr hm
  obtain ⟨a, b⟩ := high_is (u / (m : Rat))
  obtain ⟨c, d⟩ := high_is u
  generalize takenQ .high (u / (m : Rat)) = t at *
  generalize takenQ .high u = j at *
  have e : u / (m : Rat) * m = u := by grind
  have a' : ((t : Rat) - 1) * m < u := by rw [← e]; exact Rat.mul_lt_mul_of_pos_right a hm'
  have b' : u ≤ (t : Rat) * m := by rw [← e]; exact Rat.mul_le_mul_of_nonneg_right b (Rat.le_of_lt hm')
  have x1 : (t - 1) * m < j := Rat.intCast_lt_intCast.mp (by rw [Rat.intCast_mul, Rat.intCast_sub]; grind)
  have x2 : j - 1 < t * m := Rat.intCast_lt_intCast.mp (by rw [Rat.intCast_sub, Rat.intCast_mul]; grind)
  have y1 : ((t : Rat) - 1) * m < (j : Rat) := by have := Rat.intCast_lt_intCast.mpr x1; rw [Rat.intCast_mul, Rat.intCast_sub] at this; exact this
  have y2 : (j : Rat) ≤ (t : Rat) * m := by rw [← Rat.intCast_mul]; exact Rat.intCast_le_intCast.mpr (by omega)
  refine high_of ((Rat.lt_div_iff hm').mpr y1) ?_
  exact (Rat.not_lt (a := (t : Rat)) (b := (j : Rat) / m)).mp (fun z => by
    have := (Rat.lt_div_iff hm').mp z
    grind)
theorem floor_nn {n : Rat} : 0 ≤ n.floor ↔ 0 ≤ n := by
  rw [Rat.le_floor_iff]; rfl
theorem div_nn {m : Int} (hm : 0 < m) {n : Rat} : 0 ≤ n / (m : Rat) ↔ 0 ≤ n := by
  have hm' : (0 : Rat) < (m : Rat) := Rat.intCast_pos.mpr hm
  constructor
  · intro h
    have e : n / (m : Rat) * m = n := by grind
    rw [← e]
    exact Rat.mul_nonneg h (Rat.le_of_lt hm')
  · intro h
    exact (Rat.not_lt).mp (fun z => by
      have := (Rat.div_lt_iff hm').mp z
      grind)
theorem never_whole {r : Way} (hr : isHalf r = false) {m : Int} (hm : 0 < m) (u : Rat) : twiceT r m u = onceT r m u := by
  unfold twiceT onceT
  cases r with
  | hup => cases hr
  | hdown => cases hr
  | heven => cases hr
  | hodd => cases hr
  | low => exact low_div hm u
  | high => exact high_div hm u
  | up =>
    obtain ⟨c, d⟩ := high_is u
    obtain ⟨c2, d2⟩ := low_is u
    by_cases h : 0 ≤ u
    · have hj : (0 : Rat) ≤ (takenQ .high u : Rat) := Rat.le_trans h d
      rw [up_eq u, if_pos (floor_nn.mpr h), up_eq, if_pos (floor_nn.mpr ((div_nn hm).mpr hj)), up_eq, if_pos (floor_nn.mpr ((div_nn hm).mpr h)), high_div hm]
    · have hj : ¬ (0 : Rat) ≤ (takenQ .low u : Rat) := fun z => h (Rat.le_trans z c2)
      rw [up_eq u, if_neg (fun z => h (floor_nn.mp z)), up_eq, if_neg (fun z => hj ((div_nn hm).mp (floor_nn.mp z))), up_eq, if_neg (fun z => h ((div_nn hm).mp (floor_nn.mp z))), low_div hm]
  | down =>
    obtain ⟨c, d⟩ := high_is u
    obtain ⟨c2, d2⟩ := low_is u
    have neg : ∀ n : Rat, n.floor < 0 ↔ ¬ 0 ≤ n := fun n => by
      rw [← floor_nn]
      omega
    by_cases h : 0 ≤ u
    · have j0 : 0 ≤ takenQ .low u := by rw [low_eq]; exact floor_nn.mpr h
      have hj : (0 : Rat) ≤ (takenQ .low u : Rat) := Rat.intCast_nonneg.mpr j0
      rw [down_eq u, if_neg (fun z => (neg u).mp z h), down_eq, if_neg (fun z => (neg _).mp z ((div_nn hm).mpr hj)), down_eq, if_neg (fun z => (neg _).mp z ((div_nn hm).mpr h)), low_div hm]
    · rw [down_eq u, if_pos ((neg u).mpr h), down_eq (u / (m : Rat)), if_pos ((neg _).mpr fun z => h ((div_nn hm).mp z)), ← high_div hm u]
      by_cases hj : 0 ≤ (takenQ .high u : Rat)
      · have e0 : takenQ .high u = 0 := by
          have x1 : 0 ≤ takenQ .high u := Rat.intCast_nonneg.mp hj
          have x2 : takenQ .high u - 1 < 0 := Rat.intCast_neg_iff.mp (by rw [Rat.intCast_sub]; grind)
          omega
        rw [e0]
        have e1 : ((0 : Int) : Rat) / (m : Rat) = ((0 : Int) : Rat) := by grind
        rw [e1, taken_int, taken_int]
      · rw [down_eq, if_pos ((neg _).mpr fun z => hj ((div_nn hm).mp z))]
/-! ### the three numbers that are tried -/
def partsW (r : Way) (m : Int) : Bool := isHalf r && (decide (m % 2 = 0) || ((match r with | .heven => true | .hodd => true | _ => false) && decide (m % 4 = 3)))
def candU (m : Int) : List Rat := [(m : Rat) / 2 - 1 / 4, (m : Rat) / 2, (m : Rat) / 2 + 1 / 4]
theorem never_of {r : Way} {m : Int} (hm : 2 ≤ m) (h : partsW r m = false) (u : Rat) : twiceT r m u = onceT r m u := by
  cases hr : isHalf r with
  | false => exact never_whole hr (by omega) u
  | true =>
    have hodd : m % 2 = 1 := by
      by_cases z : m % 2 = 0
      · unfold partsW at h
        rw [hr, decide_eq_true z] at h
        cases h
      · omega
    obtain ⟨k, rfl⟩ : ∃ k, m = 2 * k + 1 := ⟨m / 2, by omega⟩
    refine never_odd hr (by omega) (fun s => ?_) u
    have key : s * (2 * k + 1) + k = 2 * (s * k) + s + k := by grind
    cases r with
    | up => cases hr
    | down => cases hr
    | high => cases hr
    | low => cases hr
    | hup =>
      show decide (0 ≤ s * (2 * k + 1) + k) = decide (0 ≤ s)
      rw [decide_eq_decide]
      constructor
      · intro z
        by_cases q : 0 ≤ s
        · exact q
        · have : s * (2 * k + 1) ≤ -1 * (2 * k + 1) := Int.mul_le_mul_of_nonneg_right (by omega) (by omega)
          omega
      · intro z
        have := Int.mul_nonneg z (show 0 ≤ 2 * k + 1 by omega)
        omega
    | hdown =>
      show decide (s * (2 * k + 1) + k < 0) = decide (s < 0)
      rw [decide_eq_decide]
      constructor
      · intro z
        by_cases q : s < 0
        · exact q
        · have := Int.mul_nonneg (show 0 ≤ s by omega) (show 0 ≤ 2 * k + 1 by omega)
          omega
      · intro z
        have : s * (2 * k + 1) ≤ -1 * (2 * k + 1) := Int.mul_le_mul_of_nonneg_right (by omega) (by omega)
        omega
    | heven =>
      have h4 : ¬ (2 * k + 1) % 4 = 3 := fun z => by
        unfold partsW at h
        rw [decide_eq_true z, Bool.and_true, Bool.or_true] at h
        cases h
      show decide ((s * (2 * k + 1) + k) % 2 = 1) = decide (s % 2 = 1)
      rw [decide_eq_decide, key]
      omega
    | hodd =>
      have h4 : ¬ (2 * k + 1) % 4 = 3 := fun z => by
        unfold partsW at h
        rw [decide_eq_true z, Bool.and_true, Bool.or_true] at h
        cases h
      show decide ((s * (2 * k + 1) + k) % 2 = 0) = decide (s % 2 = 0)
      rw [decide_eq_decide, key]
      omega
theorem some_of {r : Way} {m : Int} (hm : 2 ≤ m) (h : partsW r m = true) : ∃ u ∈ candU m, twiceT r m u ≠ onceT r m u := by
  have hr : isHalf r = true := by
    unfold partsW at h
    exact (Bool.and_eq_true_iff.mp h).1
  have hmq : (2 : Rat) ≤ (m : Rat) := by have := Rat.intCast_le_intCast.mpr hm; exact this
  unfold twiceT onceT
  by_cases z : m % 2 = 0
  · obtain ⟨k, rfl⟩ : ∃ k, m = 2 * k := ⟨m / 2, by omega⟩
    have c : (((2 * k : Int)) : Rat) = 2 * (k : Rat) := by rw [Rat.intCast_mul]; rfl
    have hk : (1 : Rat) ≤ (k : Rat) := by have := Rat.intCast_le_intCast.mpr (show 1 ≤ k by omega); exact this
    have c0 : ((0 : Int) : Rat) = 0 := rfl
    have c1 : ((1 : Int) : Rat) = 1 := rfl
    have e1 : takenQ r ((((2 * k : Int)) : Rat) / 2 - 1 / 4) = k := taken_near hr (by rw [c]; grind) (by rw [c]; grind)
    have e3 : takenQ r ((((2 * k : Int)) : Rat) / 2 + 1 / 4) = k := taken_near hr (by rw [c]; grind) (by rw [c]; grind)
    have ek : takenQ r ((k : Rat) / ((2 * k : Int) : Rat)) = if tieUp r 0 = true then 0 + 1 else 0 := div_mid hr (by omega) (by rw [c, c0]; grind)
    cases t : tieUp r 0 with
    | true =>
      refine ⟨_, List.mem_cons_self, ?_⟩
      rw [e1, ek, t, if_pos rfl, div_near hr (by omega) (s := 0) (by rw [c, c0]; grind) (by rw [c, c0]; grind)]
      decide
    | false =>
      refine ⟨_, List.mem_cons_of_mem _ (List.mem_cons_of_mem _ List.mem_cons_self), ?_⟩
      rw [e3, ek, t, if_neg Bool.false_ne_true, div_near hr (by omega) (s := 1) (by rw [c, c1]; grind) (by rw [c, c1]; grind)]
      decide
  · obtain ⟨k, rfl⟩ : ∃ k, m = 2 * k + 1 := ⟨m / 2, by omega⟩
    have c : (((2 * k + 1 : Int)) : Rat) = 2 * (k : Rat) + 1 := by rw [Rat.intCast_add, Rat.intCast_mul]; rfl
    have hk : (1 : Rat) ≤ (k : Rat) := by have := Rat.intCast_le_intCast.mpr (show 1 ≤ k by omega); exact this
    have c0 : ((0 : Int) : Rat) = 0 := rfl
    have c1 : ((1 : Int) : Rat) = 1 := rfl
    have e2 : takenQ r ((((2 * k + 1 : Int)) : Rat) / 2) = if tieUp r k = true then k + 1 else k := by
      rw [← taken_mid hr k]
      congr 1
      rw [c]; grind
    have o2 : takenQ r ((((2 * k + 1 : Int)) : Rat) / 2 / ((2 * k + 1 : Int) : Rat)) = if tieUp r 0 = true then 0 + 1 else 0 := div_mid hr (by omega) (by rw [c0]; grind)
    have h4 : (2 * k + 1) % 4 = 3 ∧ (r = .heven ∨ r = .hodd) := by
      unfold partsW at h
      rw [hr, decide_eq_false z] at h
      cases r <;> simp_all
    refine ⟨_, List.mem_cons_of_mem _ List.mem_cons_self, ?_⟩
    have up1 : takenQ r (((k + 1 : Int) : Rat) / ((2 * k + 1 : Int) : Rat)) = 1 := div_near hr (by omega) (by simp only [Rat.intCast_add, Rat.intCast_mul, Rat.intCast_sub, Rat.intCast_ofNat, Rat.intCast_one]; grind) (by simp only [Rat.intCast_add, Rat.intCast_mul, Rat.intCast_sub, Rat.intCast_ofNat, Rat.intCast_one]; grind)
    have lo1 : takenQ r ((k : Rat) / ((2 * k + 1 : Int) : Rat)) = 0 := div_near hr (by omega) (by rw [c, c0]; grind) (by rw [c, c0]; grind)
    rw [e2, o2]
    obtain ⟨h4, rfl | rfl⟩ := h4
    · have t1 : tieUp .heven k = true := decide_eq_true (by omega)
      rw [t1, if_pos rfl, up1]
      decide
    · have t1 : tieUp .hodd k = false := decide_eq_false (by omega)
      rw [t1, if_neg Bool.false_ne_true, lo1]
      decide
end My

namespace My
/-! ### farther by whole numbers; sizes -/
theorem taken_within (r : Way) (u : Rat) : (takenQ r u : Rat) < u + 1 ∧ u - 1 < (takenQ r u : Rat) := by
  have a := Rat.floor_le u
  have b := Rat.lt_floor_add_one u
  rw [Rat.intCast_add] at b
  unfold takenQ
  by_cases h : u = (u.floor : Rat)
  · rw [if_pos (part_zero.mpr h)]
    grind
  · rw [if_neg (fun z => h (part_zero.mp z))]
    split
    · rw [Rat.intCast_add]; grind
    · grind
theorem floor_shift (u : Rat) (j : Int) : (u + (j : Rat)).floor = u.floor + j := by
  have a := Rat.floor_le u
  have b := Rat.lt_floor_add_one u
  rw [Rat.intCast_add] at b
  have x : u.floor + j ≤ (u + (j : Rat)).floor := Rat.le_floor_iff.mpr (by rw [Rat.intCast_add]; grind)
  have y : (u + (j : Rat)).floor < u.floor + j + 1 := Rat.floor_lt_iff.mpr (by rw [Rat.intCast_add, Rat.intCast_add]; grind)
  omega
theorem part_shift (u : Rat) (j : Int) : partQ (u + (j : Rat)) = partQ u := by
  unfold partQ
  rw [floor_shift, Rat.intCast_add]
  grind
theorem rule_shift (r : Way) {l j : Int} (p : Rat) (hl : 0 ≤ l) (hj : 0 ≤ j) (h2 : j % 2 = 0) : ruleB r (l + j) p = ruleB r l p := by
  have e1 : decide (0 ≤ l + j) = decide (0 ≤ l) := by rw [decide_eq_decide]; omega
  have e2 : decide (l + j < 0) = decide (l < 0) := by rw [decide_eq_decide]; omega
  have e3 : decide ((l + j) % 2 = 1) = decide (l % 2 = 1) := by rw [decide_eq_decide]; omega
  have e4 : decide ((l + j) % 2 = 0) = decide (l % 2 = 0) := by rw [decide_eq_decide]; omega
  cases r <;> simp only [ruleB, e1, e2, e3, e4]
theorem taken_shift (r : Way) {u : Rat} {j : Int} (hu : 0 ≤ u) (hj : 0 ≤ j) (h2 : j % 2 = 0) : takenQ r (u + (j : Rat)) = takenQ r u + j := by
  unfold takenQ
  rw [part_shift, floor_shift, rule_shift r _ (floor_nn.mpr hu) hj h2]
  split
  · rfl
  · split <;> omega
theorem taken_nn (r : Way) {u : Rat} (hu : 0 ≤ u) : 0 ≤ takenQ r u := by
  have := floor_nn.mpr hu
  unfold takenQ
  split
  · exact this
  · split <;> omega
theorem twice_shift (r : Way) {m j : Int} {u : Rat} (hm : 0 < m) (hu : 0 ≤ u) (hj : 0 ≤ j) (h2 : j % 2 = 0) : twiceT r m (u + (j : Rat) * m) = twiceT r m u + j ∧ onceT r m (u + (j : Rat) * m) = onceT r m u + j := by
  have hm' : (0 : Rat) < (m : Rat) := Rat.intCast_pos.mpr hm
  have h3 : j * m % 2 = 0 := by
    obtain ⟨q, rfl⟩ : ∃ q, j = 2 * q := ⟨j / 2, by omega⟩
    rw [Int.mul_assoc]; omega
  have h4 : 0 ≤ j * m := Int.mul_nonneg hj (by omega)
  have e : (j : Rat) * (m : Rat) = ((j * m : Int) : Rat) := (Rat.intCast_mul _ _).symm
  unfold twiceT onceT
  constructor
  · rw [e, taken_shift r hu h4 h3, Rat.intCast_add, Rat.intCast_mul]
    have q : ((takenQ r u : Rat) + (j : Rat) * (m : Rat)) / (m : Rat) = (takenQ r u : Rat) / (m : Rat) + (j : Rat) := by grind
    rw [q, taken_shift r ((div_nn hm).mpr (Rat.intCast_nonneg.mpr (taken_nn r hu))) hj h2]
  · have q : (u + (j : Rat) * (m : Rat)) / (m : Rat) = u / (m : Rat) + (j : Rat) := by grind
    rw [q, taken_shift r ((div_nn hm).mpr hu) hj h2]
def absQ (x : Rat) : Rat := Rat.divInt (if x.num < 0 then -x.num else x.num) (x.den : Int)
theorem absQ_eq (x : Rat) : absQ x = if 0 ≤ x then x else -x := by
  unfold absQ
  by_cases h : 0 ≤ x
  · have : 0 ≤ x.num := Rat.num_nonneg.mpr h
    rw [if_pos h, if_neg (by omega), Rat.num_divInt_den]
  · have : ¬ 0 ≤ x.num := fun z => h (Rat.num_nonneg.mp z)
    rw [if_neg h, if_pos (by omega), ← Rat.neg_divInt, Rat.num_divInt_den]
theorem absQ_lt {x y : Rat} (h1 : x < y) (h2 : -y < x) : absQ x < y := by
  rw [absQ_eq]
  split <;> grind
theorem absQ_bd {n : Nat} {x : Rat} (h : Bd n x) : Bd n (absQ x) := by
  have := h.1
  refine Bd.of (den_ne x) (by split <;> omega) (by have := h.2; omega)
theorem lt_dec (x y : Rat) : decide (x < y) = decide (x.num * (y.den : Int) < y.num * (x.den : Int)) := by
  rw [decide_eq_decide]
  exact Rat.lt_iff x y
/-- rounded, a number lies within a step -/
theorem step_within {r : Way} {n x : Rat} (hx : 0 < x) : absQ (n - x * (takenQ r (n / x) : Rat)) < x := by
  obtain ⟨a, b⟩ := taken_within r (n / x)
  have e : n = n / x * x := by grind
  have p : (takenQ r (n / x) : Rat) * x < (n / x + 1) * x := Rat.mul_lt_mul_of_pos_right a hx
  have q : (n / x - 1) * x < (takenQ r (n / x) : Rat) * x := Rat.mul_lt_mul_of_pos_right b hx
  refine absQ_lt ?_ ?_ <;> grind
end My

namespace My
/-! ### what is due, told by whole numbers -/
theorem taken_of {r : Way} {i p0 p1 : Int} (h0 : 0 < p0) (h1 : p0 < p1) : takenQ r ((i : Rat) + Rat.divInt p0 p1) = if ruleB r i (Rat.divInt p0 p1) = true then i + 1 else i := by
  have a : (0 : Rat) < (p0 : Rat) := Rat.intCast_pos.mpr h0
  have b : (p0 : Rat) < (p1 : Rat) := Rat.intCast_lt_intCast.mpr h1
  have q : (0 : Rat) < (p1 : Rat) := by grind
  refine taken_add ?_ ?_
  · rw [Rat.divInt_eq_div]
    exact (Rat.lt_div_iff q).mpr (by grind)
  · rw [Rat.divInt_eq_div]
    exact (Rat.div_lt_iff q).mpr (by grind)
theorem nearer_div {p0 p1 : Int} (h0 : 0 < p0) (h1 : p0 < p1) (a : Bool) : nearerB (Rat.divInt p0 p1) a = if 2 * p0 = p1 then a else decide (p1 < 2 * p0) := by
  have q : (0 : Rat) < (p1 : Rat) := Rat.intCast_pos.mpr (by omega)
  have e2 : ((2 * p0 : Int) : Rat) = 2 * (p0 : Rat) := by rw [Rat.intCast_mul]; rfl
  rw [Rat.divInt_eq_div]
  by_cases z : 2 * p0 = p1
  · have p2 : (p1 : Rat) = 2 * (p0 : Rat) := by rw [← z]; exact e2
    have : (p0 : Rat) / (p1 : Rat) = 1 / 2 := by rw [p2]; rw [p2] at q; grind
    rw [if_pos z, this, nearerB_mid]
  · rw [if_neg z]
    by_cases y : p1 < 2 * p0
    · have : (p1 : Rat) < 2 * (p0 : Rat) := by rw [← e2]; exact Rat.intCast_lt_intCast.mpr y
      rw [decide_eq_true y, nearerB_hi ((Rat.lt_div_iff q).mpr (by grind))]
    · have : 2 * (p0 : Rat) < (p1 : Rat) := by rw [← e2]; exact Rat.intCast_lt_intCast.mpr (by omega)
      rw [decide_eq_false y, nearerB_lo ((Rat.div_lt_iff q).mpr (by grind))]
/-- the number of steps, as a whole and a part of one -/
theorem steps_split {t b c d : Int} (hb : 0 < b) (hc : 0 < c) (hd : 0 < d) : Rat.divInt t b / Rat.divInt c d = ((t * d / (b * c) : Int) : Rat) + Rat.divInt (t * d - t * d / (b * c) * (b * c)) (b * c) := by
  have hb' : (b : Rat) ≠ 0 := by simp; omega
  have hc' : (c : Rat) ≠ 0 := by simp; omega
  have hd' : (d : Rat) ≠ 0 := by simp; omega
  have e1 : Rat.divInt t b / Rat.divInt c d = ((t * d : Int) : Rat) / ((b * c : Int) : Rat) := by
    rw [Rat.divInt_eq_div, Rat.divInt_eq_div, Rat.intCast_mul, Rat.intCast_mul]
    grind
  have hB : ((b * c : Int) : Rat) ≠ 0 := by rw [Rat.intCast_mul]; grind
  rw [e1, Rat.divInt_eq_div, Rat.intCast_sub, Rat.intCast_mul (t * d / (b * c))]
  generalize ((t * d : Int) : Rat) = x at *
  generalize ((b * c : Int) : Rat) = y at *
  generalize ((t * d / (b * c) : Int) : Rat) = z at *
  grind
end My

namespace My
def chk : Way → Int → Int → Bool
  | .up, a, b => decide ((if b < 0 then -b else b) < (if a < 0 then -a else a))
  | .hup, a, b => decide ((if b < 0 then -b else b) < (if a < 0 then -a else a))
  | .down, a, b => decide ((if a < 0 then -a else a) < (if b < 0 then -b else b))
  | .hdown, a, b => decide ((if a < 0 then -a else a) < (if b < 0 then -b else b))
  | .high, a, b => decide (b < a)
  | .low, a, b => decide (a < b)
  | .heven, a, _ => decide (a % 2 = 0)
  | .hodd, a, _ => decide (a % 2 = 1)
def offI (u : Rat) (t : Int) : Int := if t * (u.den : Int) - u.num < 0 then -(t * (u.den : Int) - u.num) else t * (u.den : Int) - u.num
def goesB (r : Way) (u : Rat) (t o : Int) : Bool := if isHalf r = true then (if offI u t = offI u o then chk r t o else decide (offI u t < offI u o)) else chk r t o
theorem den_one {u : Rat} : (u.den : Int) = 1 ↔ (partQ u).num = 0 := by
  rw [part_zero]
  constructor
  · intro h
    have e : u = (u.num : Rat) := by
      have := Rat.num_divInt_den u
      rw [h] at this
      rw [← this, divInt_one]
      rfl
    rw [e, Rat.floor_intCast]
  · intro h
    rw [h]
    rfl
theorem whole_parts {u : Rat} (h : ¬ (partQ u).num = 0) : 0 < u.num - u.floor * (u.den : Int) ∧ u.num - u.floor * (u.den : Int) < (u.den : Int) ∧ u = (u.floor : Rat) + Rat.divInt (u.num - u.floor * (u.den : Int)) (u.den : Int) := by
  have dp := u.den_pos
  have nz : ¬ u.num - u.floor * (u.den : Int) = 0 := by
    intro z
    apply h
    rw [part_zero]
    have e : u.num = u.floor * (u.den : Int) := by omega
    have := Rat.num_divInt_den u
    rw [e, Rat.divInt_eq_div, Rat.intCast_mul] at this
    have hd : (((u.den : Int)) : Rat) ≠ 0 := by simp; omega
    grind
  have a := Int.emod_nonneg u.num (show (u.den : Int) ≠ 0 by omega)
  have b := Int.emod_lt_of_pos u.num (show 0 < (u.den : Int) by omega)
  have fl : u.floor = u.num / (u.den : Int) := Rat.floor_def u
  rw [Int.emod_def, Int.mul_comm, ← fl] at a b
  refine ⟨by omega, by omega, ?_⟩
  have := Rat.num_divInt_den u
  have hd : (((u.den : Int)) : Rat) ≠ 0 := by simp; omega
  rw [Rat.divInt_eq_div, Rat.intCast_sub, Rat.intCast_mul]
  rw [Rat.divInt_eq_div] at this
  grind
theorem goes_low {r : Way} {u : Rat} (h : ¬ (partQ u).num = 0) : goesB r u u.floor (u.floor + 1) = decide (takenQ r u = u.floor) ∧ goesB r u (u.floor + 1) u.floor = decide (takenQ r u = u.floor + 1) := by
  obtain ⟨p0, p1, e⟩ := whole_parts h
  have tk : takenQ r u = if ruleB r u.floor (Rat.divInt (u.num - u.floor * (u.den : Int)) (u.den : Int)) = true then u.floor + 1 else u.floor := by
    conv => lhs; rw [e]
    exact taken_of p0 p1
  rw [tk]
  have o1 : offI u u.floor = u.num - u.floor * (u.den : Int) := by unfold offI; split <;> omega
  have o2 : offI u (u.floor + 1) = (u.den : Int) - (u.num - u.floor * (u.den : Int)) := by
    unfold offI
    rw [Int.add_mul]
    split <;> omega
  have near := fun a => nearer_div (a := a) p0 p1
  unfold goesB
  rw [o1, o2]
  generalize u.num - u.floor * (u.den : Int) = p at *
  generalize (u.den : Int) = d at *
  generalize u.floor = l at *
  clear e tk o1 o2 h
  cases r <;> simp only [isHalf, ruleB, near, chk, if_true, Bool.false_eq_true, if_false, decide_eq_true_eq] <;> constructor <;> (repeat' split) <;> (try simp only [decide_eq_true_eq] at *) <;> (first | rfl | (rw [decide_eq_decide]; omega) | (simp; omega) | (simp; done) | (rw [decide_eq_true (by omega)]; simp))
end My

namespace My
open PySem L2
/-! ### == and != of two objects of an own class with an own == -/
section
variable {X : Cx} {C f : Addr} {fd : FuncData} {ps : List Str} {n : Nat} {sp : Sp}
/-- the own == as it runs, within X or one builtin deeper -/
theorem run_eq {A : Around} {pins : List (Addr × Obj)} {σ : L2.St} {H : Hp} {s : Shared} {a b : Addr} {Q : VK} {E : XK} (F : FnOk X.prog X.w X.K X.mg X.base CX0 n f fd ps sp) (hb : Binds X.K fd ps []) (hr : Room n A) (hfr : A.frames = X.A.frames)
    (I : Inv X pins σ H s) (h : sp [.ref a, .ref b] H Q E) : wpAny (model X.prog X.w) A (call (.ref f) [.ref a, .ref b]) (EP X pins σ Q) X.xe s := by
  have w0 := I.env0
  have w1 : Env0 X.prog X.w X.K X.mg X.base A X.stack s H := ⟨hfr.trans w0.frames, w0.mod, w0.bs, w0.bsz, w0.funs, w0.frf, w0.hok, w0.bare⟩
  have len2 : 2 = ps.length := F.len _ _ _ _ h
  have bnd : BindsTo s fd ⟨[.ref a, .ref b], []⟩ (ps.zip [.ref a, .ref b]) := by
    have q := hb s [.ref a, .ref b] I.kIn (by simpa using len2)
    simpa using q
  refine wpAny_call (codeAny_mono (F.run A X.stack s H ⟨[.ref a, .ref b], []⟩ [.ref a, .ref b] [.ref a, .ref b] Q E hr w1 bnd (.cons rfl (.cons rfl .nil)) h) ?_)
  intro r s' z
  match r, z with
  | .error _, z => exact z.elim
  | .ok (.ret u), z => exact I.after z
/-- a == b -/
def rEqOwn (C : Addr) (sp : Sp) : R2 := fun x y H Q => ∃ (a b dx dy : Addr) (fs gs : List (Str × V)), x = .ref a ∧ y = .ref b ∧ H a = some (.ins C dx fs) ∧ H b = some (.ins C dy gs) ∧ sp [.ref a, .ref b] H (fun v H' => ∃ k, v = .bl k ∧ Q (.bl k) H') E0
theorem op_eqOwn (F : FnOk X.prog X.w X.K X.mg X.base CX0 n f fd ps sp) (hs : PySem.W.findIn X.K (.ref C) "__eq__" = some (some (.ref f))) (hf : PySem.W.isFn X.K (.ref f) = true) (hb : Binds X.K fd ps []) (hr : Room n X.A) :
    OpR X (compareOp .Eq) (rEqOwn C sp) := by
  rintro pins s σ H x y v u Q I rx ry ⟨a, b, dx, dy, fs, gs, rfl, rfl, ha, hb', q⟩
  cases rx
  cases ry
  obtain ⟨_, J1, _⟩ := ins_get I.hok ha
  obtain ⟨_, J2, _⟩ := ins_get I.hok hb'
  obtain ⟨_, K1, _⟩ := J1.look
  obtain ⟨_, K2, _⟩ := J2.look
  obtain ⟨_, fr⟩ := I.fr
  show wpAny (model X.prog X.w) X.A (richCompare .Eq (.ref a) (.ref b)) _ _ s
  refine PySem.W.cmp_K (op := .Eq) (tb := .ref C) hr.units0 fr I.ok.mod.kin K1 K2.type (by simp [PySem.W.notFirst]) hs hf ?_
  refine thn (run_eq F hb hr rfl I q) ?_
  rintro w s' ⟨z, H', I', rz, k, rfl, qk⟩
  cases rz
  exact ⟨.bl k, H', I', rfl, qk⟩
/-- a != b, no own != -/
def rNeOwn (C : Addr) (sp : Sp) : R2 := fun x y H Q => ∃ (a b dx dy : Addr) (fs gs : List (Str × V)), x = .ref a ∧ y = .ref b ∧ H a = some (.ins C dx fs) ∧ H b = some (.ins C dy gs) ∧ sp [.ref a, .ref b] H (fun v H' => ∃ k, v = .bl k ∧ Q (.bl (!k)) H') E0
theorem ne_run {P : Program} {w : World} {A : Around} {R : Fin → Shared → Prop} {E : Value → Shared → Prop} {K : PySem.W.Frag} {s : Shared} {a b C f : Addr} {ox : Obj} {od : Option Obj} (hu : A.units < cLine) (X : K.In s.heap) (I : PySem.W.InstAt s.heap a ox C od)
    (hs : PySem.W.findIn K (.ref C) "__eq__" = some (some (.ref f))) (hf : PySem.W.isFn K (.ref f) = true) (h : wpAny (model P w) A (call (.ref f) [.ref a, .ref b]) (fun v s' => ∃ k, v = .bool k ∧ R (.done (.ret (.bool (!k)))) s') E s) :
    wpAny (model P w) A (Builtin.«object.__ne__» ⟨[.ref a, .ref b], []⟩) R E s := by
  have e : Builtin.«object.__ne__» ⟨[.ref a, .ref b], []⟩ = (do
      cRoomFor "comparison" [.ref a, .ref b]
      let r ← callSpecialIfBound? (.ref a) "__eq__" [.ref b]
      match r with
      | some .notImplemented | none => PySem.ret .notImplemented
      | some r => PySem.ret (.bool (!(← truthy r)))) := by rfl
  rw [e]
  refine wpAny_bind (wpAny_cRoomFor hu ?_)
  refine wpAny_bind (PySem.W.ifBound_K X I hs hf (wpAny_mono h ?_ fun _ _ z => z))
  rintro v s' ⟨k, rfl, q⟩
  exact wpAny_bind (wpAny_truthy_bool (wpAny_pure q))
theorem op_neOwn (F : FnOk X.prog X.w X.K X.mg X.base CX0 n f fd ps sp) (hs : PySem.W.findIn X.K (.ref C) "__eq__" = some (some (.ref f))) (hf : PySem.W.isFn X.K (.ref f) = true) (hb : Binds X.K fd ps [])
    (hn : PySem.W.findIn X.K (.ref C) "__ne__" = some (some (.builtin "object.__ne__"))) (hm : PySem.W.mroIn X.K C (.type "object") = some true) (hr : Room (n + 1) X.A) :
    OpR X (compareOp .NotEq) (rNeOwn C sp) := by
  rintro pins s σ H x y v u Q I rx ry ⟨a, b, dx, dy, fs, gs, rfl, rfl, ha, hb', q⟩
  cases rx
  cases ry
  obtain ⟨_, J1, _⟩ := ins_get I.hok ha
  obtain ⟨_, J2, _⟩ := ins_get I.hok hb'
  obtain ⟨_, K1, _⟩ := J1.look
  obtain ⟨_, K2, _⟩ := J2.look
  have kin := I.kIn
  have sub : PySem.W.Looks (model X.prog X.w) s.heap (isInstance (.ref a) (.type "object")) true := K1.type.andThen (PySem.W.looks_mroIn kin hm)
  have r1 : Room n X.A.in1 := hr.in1
  have go : wpAny (model X.prog X.w) X.A (call (.builtin "object.__ne__") [.ref a, .ref b]) (fun v s' => v ≠ .notImplemented ∧ EP X pins σ Q v s') X.xe s := by
    refine wpAny_call (codeAny_call_builtin PySem.F.slot_tuple_iterator_ne.plain PySem.F.cmpEntry_ne (PySem.W.check_slot PySem.F.cmpKind_ne PySem.F.cmpSplit_ne sub (PySem.F.cmpArgs_ne _ _) ?_))
    refine ne_run r1.units0 kin K1 hs hf (thn (run_eq F hb r1 rfl I q) ?_)
    rintro w s' ⟨z, H', I', rz, k, rfl, qk⟩
    cases rz
    exact ⟨k, rfl, (fun z => by cases z), .bl (!k), H', I', rfl, qk⟩
  have one : wpAny (model X.prog X.w) X.A (tryCompare (.ref a) "__ne__" (.ref b)) (fun r s' => ∃ v, r = some v ∧ EP X pins σ Q v s') X.xe s := by
    unfold tryCompare
    refine wpAny_bind ?_
    simp only [callSpecialIfBound?, bindSpecialIfBound?]
    have bi : PySem.W.Looks (model X.prog X.w) s.heap (bindSpecial (.builtin "object.__ne__") (.ref a)) (.builtin "object.__ne__", [.ref a]) := PySem.W.Looks.of_pure (PySem.F.slot_tuple_iterator_ne.bind _)
    have last : wpAny (model X.prog X.w) X.A (call (.builtin "object.__ne__") ([.ref a] ++ [.ref b]) >>= fun v => pure (some v)) (fun r s' => wpAny (model X.prog X.w) X.A (match r with | some .notImplemented => pure none | none => pure none | some v => pure (some v)) (fun r s' => ∃ v, r = some v ∧ EP X pins σ Q v s') X.xe s') X.xe s := by
      refine wpAny_bind (thn go ?_)
      rintro v s' ⟨nv, ev⟩
      refine wpAny_pure ?_
      cases v <;> first | exact absurd rfl nv | exact wpAny_pure ⟨_, rfl, ev⟩
    refine wpAny_holding (wpAny_bind (wpAny_bind (wpAny_bind (K1.type.here ((PySem.W.looks_findIn kin hn).here ?_)))))
    refine wpAny_bind (wpAny_askSetting (wpAny_ite ?_))
    split
    · exact wpAny_bind (bi.here (wpAny_pure (by exact last)))
    · exact wpAny_tryCatch (wpAny_bind (bi.here (wpAny_pure (by exact last))))
  show wpAny (model X.prog X.w) X.A (richCompare .NotEq (.ref a) (.ref b)) _ _ s
  unfold richCompare
  simp only [oneThing_ref]
  refine wpAny_holding (wpAny_bind (wpAny_cRoomFor hr.units0 ?_))
  refine wpAny_bind (K1.type.here (wpAny_bind (K2.type.here ?_)))
  have e0 : (Value.ref C != Value.ref C) = false := by simp
  rw [e0]
  simp only [Bool.false_eq_true, if_false]
  refine wpAny_bind (wpAny_pure ?_)
  simp only [Bool.false_eq_true, if_false]
  refine wpAny_bind (wpAny_mono one ?_ fun _ _ z => z)
  rintro r s' ⟨v, rfl, q'⟩
  exact wpAny_pure q'
end
end My

namespace My
open PySem PySem.Spec PyProof.Rows L2
/-! ### promises where no repr is under way -/
/-- a promise of the def at f, for surroundings in which nothing is being shown -/
structure FnG (P : Program) (w : World) (K : PySem.W.Frag) (mg : Str → Option Value) (base : Heap) (k : Nat) (f : Addr) (fd : FuncData) (ps : List Str) (sp : Sp) : Prop where
  len : ∀ vs H Q E, sp vs H Q E → vs.length = ps.length
  run : ∀ (A : Around) (outer : List Env) (s : Shared) (H : Hp) (args : Args) (us : List Value) (vs : List V) (Q : VK) (E : XK), A.guards = some [] → Room k A → Env0 P w K mg base A outer s H → BindsTo s fd args (ps.zip us) → Vals vs us → sp vs H Q E →
    codeAny (model P w) A (.call (.ref f) args) (CR CX0 outer P w H s Q E) s
section
variable {P : Program} {w : World} {K : PySem.W.Frag} {mg : Str → Option Value} {base : Heap}
theorem FnG.by_body {x qual : Str} {st : Stmt} {f : Addr} {fd : FuncData} {N ps : List Str} {k : Nat} {sp : Sp} (F : Fun K x qual st f fd) (S : FnScope N ps (defScope st)) (len : ∀ vs H Q E, sp vs H Q E → vs.length = ps.length)
    (body : ∀ (cdv : Value) (A : Around) (outer : List Env) (s : Shared) (H : Hp) (vs : List V) (Q : VK) (E : XK), A.guards = some [] → Room k (A.deeper (envOfC qual (defScope st) s.heap.objs.size f cdv)) → sp vs H Q E →
      ∃ t, PSs (cxOf CX0 P w K mg base N qual (defScope st) f cdv A outer s H E).nox (defBody st) t ∧ t { nx := fun _ H' => Q .non H', rt := Q } (start N vs) H) : FnG P w K mg base (k + 1) f fd ps sp := by
  obtain ⟨_, _, _, _, _, _, cdv, _, _, rfl, look, code⟩ := F.ex
  constructor
  · exact len
  intro A outer s H args us vs Q E hg hr e0 hb rel hsp
  have n := len _ _ _ _ hsp
  have old : ∀ b o, base.get? b = some o → s.heap.get? b = some o := fun b o e => (e0.bs b o e).1
  have inK : K.In s.heap := e0.mod.kin.keeps old
  obtain ⟨t, ht, q⟩ := body cdv A outer s H vs Q E hg (hr.deeper _) hsp
  have named : ∀ y ∈ ps.zip us, (defScope st).names.lookup y.1 = some .local ∨ ((defScope st).names.lookup y.1 = some .cell ∧ ((cellsFrom (s.heap.objs.size + 1) (defScope st).names []).lookup y.1).isSome = true) := by
    rintro ⟨m, v⟩ hy
    exact (S.par m (List.of_mem_zip hy).1).imp (fun z => z) fun z => ⟨z, PySem.W.cellsFrom_some _ _ _ (.inl z)⟩
  refine codeAny_call_function hr.depth (inK _ _ look) rfl S.co S.gen rfl (PySem.W.codeRec_of inK code) (hb _ _ _ _ (wpAny_newFunctionEnv_cells S.kind named fun env he s1 z => ?_))
  subst he
  refine ⟨(e0.mod.nolimit.keeps old).keeps z.toInCall.keep, codeAny_func (wpAny_mono (ht.nox.run [] s1 (start N vs) H _ (inv_start S hr.hd e0 n rel z) q) ?_ fun _ _ h => h)⟩
  intro fl s' h
  match fl, h with
  | .ret u, ⟨v, σ', H', J, rv, q'⟩ => exact ⟨v, H', J.os, J.bare, J.base, J.hok, rv, q'⟩
  | .next, ⟨σ', H', J, q'⟩ => exact ⟨V.non, H', J.os, J.bare, J.base, J.hok, rfl, q'⟩
  | .brk, ⟨_, _, _, q'⟩ => exact q'.elim
  | .cont, ⟨_, _, _, q'⟩ => exact q'.elim
end
section
variable {X : Cx} {k : Nat} {f : Addr} {fd : FuncData} {ps : List Str} {sp : Sp} {dvs : List V} {ds : List Value} {E : XK} {x : Str} {p pos : Pos} {e : Expr} {es : List Expr} {t : TA}
/-- a call of such a def -/
theorem pe_callG (hA : X.A.guards = some []) (F : FnG X.prog X.w X.K X.mg X.base k f fd ps sp) (hr : Room k X.A) (hg : Gl X x) (hm : X.mg x = some (.ref f)) (hk : PySem.W.keepIn X.K (.ref f) = true) (hb : Binds X.K fd ps ds) (hd : Vals dvs ds) (hx : Passes CX0 X E)
    (ha : PA X (e :: es) t) (hdb : (x == ("__debug__" : Str)) = false := by decide) (he : starEach (e :: es) X.env = (false, eval e X.env) :: starEach es X.env := by rfl) (hpl : (backTo pos (starEach es X.env)).any (·.1) = false := by rfl) :
    PE X (.Call (.Name x p) (e :: es) [] pos) (tCall sp dvs E t) := by
  constructor
  intro pins s σ H Q I h
  refine wpAny_Call_Name_kw (ld_glob I hg hm ?_ hdb)
  refine PySem.W.callWith_K (h₀ := X.base) I.ok.mod.kin hk (thn (ha.run pos pins s σ H _ I h) ?_) he hpl
  rintro us s1 ⟨vs, H1, J, rel, q⟩
  refine ⟨J.kIn, ?_⟩
  have both := rel.append hd
  have n : (us ++ ds).length = ps.length := by rw [← both.length]; exact F.len _ _ _ _ q
  refine wpAny_call (codeAny_mono (F.run X.A X.stack s1 H1 ⟨us, []⟩ (us ++ ds) (vs ++ dvs) Q E hA hr J.env0 (hb s1 us J.kIn n) both q) ?_)
  intro r s' z
  match r, z with
  | .error _, z => exact hx pins σ H1 s1 _ s' J z
  | .ok (.ret _), z => exact J.after z
/-- repr of data -/
def rRepr (K : PySem.W.Frag) : List V → Hp → VK → Prop := fun xs H Q => ∃ (a : Addr) (d : PyData), xs = [.ref a] ∧ Dp K H (.ref a) d ∧ d.showable = true ∧ d.hasDict = false ∧ d.depth ≤ 60 ∧ d.shown.length ≤ sizeLine ∧ Q (.str d.shown) H
theorem call_repr (hA : X.A.guards = some []) (hu : X.A.units + 64 < cLine) : CallR X (.builtin "repr") (rRepr X.K) := by
  rintro pins s σ H xs us Q I r ⟨a, d, rfl, hd, hs, hn, hz, hl, q⟩
  obtain ⟨u, rfl, rx⟩ := vals1 r
  cases rx
  obtain ⟨as, rd⟩ := Dp.reads I d (.ref a) (.ref a) hd rfl
  exact repr_of_reads' rd hs (PyData.noDict_hsm hn) hA (by omega) (fun _ _ e => e) (fun h' u tk hk => ⟨.str d.shown, H, I.kept hk, ⟨_, rfl⟩, q⟩) hl
end
end My
namespace My
open PySem PySem.Spec PyProof.Rows L2
/-! ### the law's call, by such a promise -/
section
variable {P : Program} {w : World} {K : PySem.W.Frag} {mg mb : Str → Option Value} {k : Nat} {fa a : Addr} {fd : FuncData} {x : Str} {sp : Sp} {s₁ : Shared} {vs : List Value} {ns : List Int}
/-- with H tracked: nothing but the script, and not even this where it is the module's own -/
theorem law_with (KX : K.In s₁.heap) (hns : s₁.heap.Ns mainGlobals mg) (hb : s₁.heap.Ns builtinsNs mb) (hbb : ∀ x : Str, x ≠ "__name__" → mb x = bootBuiltins x) (hlim : s₁.heap.NoLimit) (hg : s₁.gens = #[])
    (ha : s₁.heap.get? a = some { cls := .type "list", data := .seq vs.toArray }) (hr : Room k callerA)
    (F : ∀ base : Heap, K.In base → base.Ns mainGlobals mg → FnG P w K mg base k fa fd [x] sp) (hbind : ∀ (s : Shared) (u : Value), BindsTo s fd ⟨[u], []⟩ [(x, u)])
    {H : Hp} (off : ∀ b, b ≠ a → H b = none) (own : K.lookup a ≠ none → H a = none) (frz : ∀ u, H a = some u → ∃ ob xs, u = .frz ob (.lst xs)) (hok : HOk P w H s₁.heap)
    (hsp : sp [.ref a] H (fun v _ => v = .bl true) fun _ _ _ => False) :
    codeAny (model P w) callerA (.call (.ref fa) ⟨[.ref a], []⟩) (fun r s' => r = .ok (.ret (.bool true)) ∧ OldK s₁.heap s'.heap ∧ s'.os = s₁.os ∧ AllBare s'.gens) s₁ := by
  have stays : ∀ {b : Addr} {o : Obj}, s₁.heap.get? b = some o → b ≠ a → (hidT s₁.heap H).get? b = some o := fun e n => hidT_get e (off _ n)
  have dicts : ∀ {b : Addr} {o : Obj} {es : Array DictEntry} {n : Nat}, s₁.heap.get? b = some o → o.data = .dict es n → b ≠ a := by
    rintro b o es n e d rfl
    rw [ha] at e
    cases e
    cases d
  have tables : ∀ {b : Addr} {m : Str → Option Value}, s₁.heap.Ns b m → (hidT s₁.heap H).Ns b m := fun {b m} h => by
    obtain ⟨o, es, n, e, d, r⟩ := h
    exact ⟨o, es, n, stays e (dicts e d), d, r⟩
  have inK : K.In (hidT s₁.heap H) := fun b o e => by
    by_cases z : b = a
    · subst z
      exact hidT_get (KX _ _ e) (own (by rw [e]; simp))
    · exact stays (KX _ _ e) z
  obtain ⟨mc, l1, l2⟩ := hlim
  have e0 : Env0 P w K mg (hidT s₁.heap H) callerA [] s₁ H :=
    ⟨rfl, ⟨inK, tables hns, ⟨mb, tables hb, hbb⟩, mc, tables l1, l2⟩, fun b o e => of_hidT e, Nat.le_of_eq (hidT_size _ _), trivial, fun b hb => absurd (show b ∈ ([] : List Addr) from hb) (by simp), hok, .of_eq hg⟩
  have run := (F _ inK (tables hns)).run callerA [] s₁ H ⟨[.ref a], []⟩ [.ref a] [.ref a] _ _ rfl hr e0 (hbind s₁ (.ref a)) (.cons rfl .nil) hsp
  refine codeAny_mono run ?_
  intro r s' h
  match r, h with
  | .error _, h => exact False.elim h
  | .ok (.ret u), ⟨v, H', os, bare, un, hok', rv, q⟩ =>
    have q' : v = .bl true := q
    subst q'
    obtain rfl : u = Value.bool true := rv
    refine ⟨rfl, OldK.of_keep fun b o e => ?_, os, bare⟩
    cases z : H b with
    | none => exact un.keep b o e z (fun y => absurd (show b ∈ ([] : List Addr) from y) (by simp)) (by simp)
    | some u =>
      have ba : b = a := Classical.byContradiction fun y => by rw [off b y] at z; cases z
      subst ba
      obtain ⟨ob, xs, rfl⟩ := frz u z
      obtain ⟨e1, _⟩ := hok b _ z
      obtain ⟨e2, _⟩ := hok' b _ (un.frzs b ob _ z)
      rw [e] at e1
      cases e1
      exact e2
theorem law_callG (KX : K.In s₁.heap) (hns : s₁.heap.Ns mainGlobals mg) (hb : s₁.heap.Ns builtinsNs mb) (hbb : ∀ x : Str, x ≠ "__name__" → mb x = bootBuiltins x) (hlim : s₁.heap.NoLimit) (hg : s₁.gens = #[])
    (ha : s₁.heap.get? a = some { cls := .type "list", data := .seq vs.toArray }) (hi : IntsAre vs ns) (hl : ns.length ≤ sizeLine) (hr : Room k callerA)
    (F : ∀ base : Heap, K.In base → base.Ns mainGlobals mg → FnG P w K mg base k fa fd [x] sp) (hbind : ∀ (s : Shared) (u : Value), BindsTo s fd ⟨[u], []⟩ [(x, u)])
    (hsp : ∀ H : Hp, SqL K H a (ns.map V.int) → sp [.ref a] H (fun v _ => v = .bl true) fun _ _ _ => False) :
    codeAny (model P w) callerA (.call (.ref fa) ⟨[.ref a], []⟩) (fun r s' => r = .ok (.ret (.bool true)) ∧ OldK s₁.heap s'.heap ∧ s'.os = s₁.os ∧ AllBare s'.gens) s₁ := by
  have rel := vals_ints hi
  by_cases hk : K.lookup a = none
  · let it : HO := .frz { cls := .type "list", data := .seq vs.toArray } (.lst (ns.map V.int))
    have there : upd (fun _ => none) a it a = some it := upd_same
    refine law_with KX hns hb hbb hlim hg ha hr F hbind (H := upd (fun _ => none) a it) (fun b n => upd_ne n) (fun z => absurd hk z) (fun u e => ?_) (fun b u e => ?_) (hsp _ (.inl (.inr ⟨_, there⟩)))
    · rw [there] at e
      cases e
      exact ⟨_, _, rfl⟩
    · by_cases z : b = a
      · subst z
        rw [there] at e
        cases e
        exact ⟨ha, by rw [List.length_map]; exact hl, vs, _, rel, ha⟩
      · rw [upd_ne z] at e
        cases e
  · obtain ⟨o, ho⟩ := Option.ne_none_iff_exists'.mp hk
    have e := KX a o ho
    rw [ha] at e
    cases e
    refine law_with KX hns hb hbb hlim hg ha hr F hbind (H := fun _ => none) (fun b n => rfl) (fun _ => rfl) (fun u e => by cases e) (fun b u e => by cases e) (hsp _ (.inr ⟨_, vs.toArray, _, ho, rfl, rfl, rfl, by rw [List.size_toArray, hi.length]; exact hl, by simpa using rel⟩))
theorem walk_ofG {l : PySem.W.OpenLaw} {n k : Nat} {q : Program} {loose : List Str} {XP : (Str → Option Value) → Heap → Prop} {YP : World → Heap → Prop} {d : DefRec} {K : Params → PySem.W.Frag} {sp : World → Sp} {x : Str}
    (hn : l.most = some n) (hn2 : n ≤ sizeLine) (hdf : d.params.defaults = []) (hr : Room k callerA) (hY : ∀ (w : World) (h : Heap), YP w h → (K w.params).In h)
    (F : ∀ (w : World) (mg : Str → Option Value) (fa : Addr) (h : Heap), (K w.params).In h → h.Ns mainGlobals mg → mg d.name = some (.ref fa) →
      ∃ fd : FuncData, (∀ (s : Shared) (u : Value), BindsTo s fd ⟨[u], []⟩ [(x, u)]) ∧ ∀ base : Heap, (K w.params).In base → base.Ns mainGlobals mg → FnG l.prog w (K w.params) mg base k fa fd [x] (sp w))
    (hsp : ∀ (w : World) (H : Hp) (a : Addr) (ns : List Int), ns.length ≤ n → SqL (K w.params) H a (ns.map V.int) → sp w [.ref a] H (fun v _ => v = .bl true) fun _ _ _ => False) :
    PySem.W.WalkO q loose XP YP l.row.toRowW d [] (fun f vs => PySem.call f vs) := by
  refine Att.attach_call hn hdf fun w s₀ s₁ mg mb fa o pm cd doc a vs ns G Y ho hd hcd hmg hobj hints hlen hg => ?_
  have KX := hY w _ Y
  obtain ⟨fd, hb, hF⟩ := F w mg fa _ KX G.T.g hmg
  exact law_callG KX G.T.g G.T.b G.T.builtins G.T.nolimit hg hobj hints (Nat.le_trans hlen hn2) hr hF hb fun H hS => hsp w H a ns hlen hS
end
end My

namespace My
open PySem PySem.Spec PyProof.Rows L2
section
variable {X : Cx}
/-- repr of data, whatever its kind -/
def rReprA (K : PySem.W.Frag) : List V → Hp → VK → Prop := fun xs H Q => ∃ (x : V) (d : PyData), xs = [x] ∧ Dp K H x d ∧ d.showable = true ∧ d.hasDict = false ∧ d.depth ≤ 60 ∧ d.shown.length ≤ sizeLine ∧ Q (.str d.shown) H
theorem call_reprA (hA : X.A.guards = some []) (hu : X.A.units + 64 < cLine) : CallR X (.builtin "repr") (rReprA X.K) := by
  rintro pins s σ H xs us Q I r ⟨x, d, rfl, hd, hs, hn, hz, hl, q⟩
  obtain ⟨u, rfl, rx⟩ := vals1 r
  cases hd with
  | non =>
    cases rx
    exact PySem.P.repr_of_none ⟨.str _, H, I.tok _, ⟨_, rfl⟩, q⟩
  | bl b =>
    obtain ⟨t, rfl⟩ := rx
    exact PySem.P.repr_of_bool ⟨.str _, H, I.tok _, ⟨_, rfl⟩, q⟩
  | int i =>
    obtain ⟨t, rfl⟩ := rx
    exact PySem.P.repr_of_int (by simpa [PyData.showable] using hs) ⟨.str _, H, I.tok _, ⟨_, rfl⟩, q⟩
  | str z =>
    obtain ⟨t, rfl⟩ := rx
    exact PySem.P.repr_of_str ⟨.str _, H, I.tok _, ⟨_, rfl⟩, q⟩ hl
  | lst h1 h2 =>
    cases rx
    obtain ⟨as, rd⟩ := Dp.reads I _ _ _ (.lst h1 h2) rfl
    exact repr_of_reads' rd hs (PyData.noDict_hsm hn) hA (by omega) (fun _ _ e => e) (fun h' u tk hk => ⟨.str _, H, I.kept hk, ⟨_, rfl⟩, q⟩) hl
  | tup h1 h2 =>
    cases rx
    obtain ⟨as, rd⟩ := Dp.reads I _ _ _ (.tup h1 h2) rfl
    exact repr_of_reads' rd hs (PyData.noDict_hsm hn) hA (by omega) (fun _ _ e => e) (fun h' u tk hk => ⟨.str _, H, I.kept hk, ⟨_, rfl⟩, q⟩) hl
end
/-- none, or a whole number, shown -/
theorem data_opt {d : PyData} (h : d = .none ∨ ∃ i : Int, d = .int i ∧ i.natAbs < 2 ^ 1900) : d.showable = true ∧ d.hasDict = false ∧ d.depth ≤ 60 ∧ d.shown.length ≤ sizeLine := by
  rcases h with rfl | ⟨i, rfl, hi⟩
  · refine ⟨?_, ?_, ?_, ?_⟩ <;> first | rfl | decide +kernel
  · have l1 : i.natAbs.log2 < 1920 := Nat.lt_of_lt_of_le (PySem.Flt.log2_lt_of (by decide) hi) (by decide)
    have s1 : (PyData.shown (.int i)).length ≤ 1921 := PyProof.Rows.int_text_len_1921 l1
    refine ⟨?_, ?_, ?_, ?_⟩
    · simpa only [PyData.showable, decide_eq_true_eq] using l1
    · simp [PyData.hasDict]
    · simp [PyData.depth]
    · exact Nat.le_trans s1 (by decide)
end My

namespace My
open PySem L2
/-- two numbers, shown -/
theorem short_two {a b : Int} (ha : a.natAbs < 2 ^ 1900) (hb : b.natAbs < 2 ^ 1900) : (PyData.shown (.tuple [.int a, .int b])).length ≤ sizeLine := by
  have l1 : a.natAbs.log2 < 1920 := Nat.lt_of_lt_of_le (PySem.Flt.log2_lt_of (by decide) ha) (by decide)
  have l2 : b.natAbs.log2 < 1920 := Nat.lt_of_lt_of_le (PySem.Flt.log2_lt_of (by decide) hb) (by decide)
  have s1 : (PyData.shown (.int a)).length ≤ 1921 := PyProof.Rows.int_text_len_1921 l1
  have s2 : (PyData.shown (.int b)).length ≤ 1921 := PyProof.Rows.int_text_len_1921 l2
  have short : (PyData.tuple [.int a, .int b]).leavesShort 1921 = true := by
    simp only [PyData.leavesShort, PyData.leavesShortAll, Bool.and_true, Bool.and_eq_true, decide_eq_true_eq]
    exact ⟨s1, s2⟩
  have le := PyData.shown_le 1921 (by decide) _ short
  have wt : (PyData.tuple [.int a, .int b]).weight ≤ 4000 := by
    simp only [PyData.weight, PyData.weightAll]
    have wt1 : ∀ i : Int, i.natAbs.log2 < 1920 → (if (i == 0) = true then 0 else i.natAbs.log2 + 1) ≤ 1920 := fun i h => by split <;> omega
    have wa := wt1 a l1
    have wb := wt1 b l2
    omega
  have e : sizeLine = 16777216 := rfl
  omega
theorem data_two {a b : Int} (ha : a.natAbs < 2 ^ 1900) (hb : b.natAbs < 2 ^ 1900) : (PyData.tuple [.int a, .int b]).showable = true ∧ (PyData.tuple [.int a, .int b]).hasDict = false ∧ (PyData.tuple [.int a, .int b]).depth ≤ 60 := by
  refine ⟨?_, ?_, ?_⟩
  · have l1 : a.natAbs.log2 < 1920 := Nat.lt_of_lt_of_le (PySem.Flt.log2_lt_of (by decide) ha) (by decide)
    have l2 : b.natAbs.log2 < 1920 := Nat.lt_of_lt_of_le (PySem.Flt.log2_lt_of (by decide) hb) (by decide)
    simp only [PyData.showable, PyData.showableAll, Bool.and_true, Bool.and_eq_true, decide_eq_true_eq]
    exact ⟨l1, l2⟩
  · simp [PyData.hasDict, PyData.hasDictAll]
  · simp [PyData.depth, PyData.depthAll]
end My

namespace My
open PySem PySem.Spec PyProof.Rows L2
/-! ### a tuple of three, turned about -/
section
variable {P : Program} {w : World} {A : Around} {E : Value → Shared → Prop} {s : Shared}
open PySem.HandSPX in
theorem get_rev3 {t sl : Addr} {v0 v1 v2 vs : Value} {Q : Value → Shared → Prop} (ht : IsTup s.heap t [v0, v1, v2].toArray) (hs : s.heap.IsSliceOf sl .none .none vs) (ps : IsPart vs (some (-1)))
    (k : Q (.ref s.heap.objs.size) { s with heap := s.heap.push { cls := .type "tuple", data := .seq [v2, v1, v0].toArray } }) : wpAny (model P w) A (getItem (.ref t) (.ref sl)) Q E s := by
  obtain ⟨os, hos, hcs, hds⟩ := id hs
  have hTs : s.TypeIs (.ref sl) "slice" := ⟨os, hos, hcs⟩
  unfold getItem
  try with_reducible refine wpAny_holding ?_
  first | refine wpAny_bind (wpAny_pure ?_) | skip
  refine wpAny_bind (wpAny_sequenceKey ht.typeIs (by decide) (wpAny_bind ?_))
  refine wpAny_callSpecial?_slot (name := Str.ofString "__getitem__") ht.typeIs PyProof.Rows.slot_tuple_getitem ?_
  refine wpAny_call_entry PyProof.Rows.slot_tuple_getitem ht.typeIs entry_tuple_getitem ?_ (args_tuple_getitem _ _)
  show wpAny _ _ (Builtin.Tuple.tupleItemsOf (.ref t) >>= _) _ _ s
  refine wpAny_bind (tupleItemsOf_ ht (wpAny_bind (wpAny_typeOf hTs ?_)))
  rw [if_pos (by decide)]
  have ap : ∀ {R : Int × Int × Nat → Shared → Prop}, R (2, -1, 3) s → wpAny (model P w) A.in1 (Builtin.Slice.sliceApplied (.ref sl) (pure ([v0, v1, v2].toArray.size : Int))) R E s := fun {R} q => by
    unfold Builtin.Slice.sliceApplied Builtin.Slice.sliceFields
    refine wpAny_bind (wpAny_bind (wpAny_field hos hds (x := .none) rfl (wpAny_bind (wpAny_field hos hds (x := .none) rfl (wpAny_bind (wpAny_field hos hds (x := vs) rfl (wpAny_pure ?_)))))))
    refine wpAny_bind (HT.slicePart_ ps ?_)
    show wpAny _ _ (if ((-1 : Int) == 0) = true then _ else _) _ _ s
    rw [if_neg (by decide)]
    exact wpAny_bind (PyProof.Rows.slicePart_none (wpAny_bind (PyProof.Rows.slicePart_none (wpAny_bind (wpAny_pure (wpAny_pure (by simpa [Builtin.Slice.slicePlaces] using q)))))))
  refine wpAny_bind (ap ?_)
  show wpAny _ _ (if ((2 : Int) == 0 && (-1 : Int) == 1 && (3 : Nat) == [v0, v1, v2].toArray.size) = true then _ else _) _ _ s
  rw [if_neg (by simp)]
  have pick : ((List.range 3).filterMap fun (k : Nat) => [v0, v1, v2].toArray[((2 : Int) + (k : Int) * -1).toNat]?).toArray = [v2, v1, v0].toArray := rfl
  rw [pick]
  have sz : sizeOk (.seq [v2, v1, v0].toArray) := by
    show [v2, v1, v0].toArray.size ≤ sizeLine
    exact (by decide : 3 ≤ 16777216)
  first
    | exact wpAny_bind (m := Builtin.Tuple.tupleExact _) (wpAny_newObj_type (wpAny_pure ⟨_, rfl, wpAny_pure k⟩) sz)
    | exact wpAny_bind (m := Builtin.Tuple.tupleExact _) (wpAny_newObj_type (wpAny_bind (wpAny_pure (wpAny_pure ⟨_, rfl, wpAny_pure k⟩))) sz)
    | exact wpAny_bind (wpAny_bind (m := Builtin.Tuple.tupleExact _) (wpAny_newObj_type (wpAny_pure ⟨_, rfl, wpAny_pure k⟩) sz))
end
section
variable {X : Cx}
def tRev3 (K : PySem.W.Frag) (te : TE) : TE := fun σ H Q => te σ H fun x H1 => ∃ a v0 v1 v2, x = .ref a ∧ SqT K H1 a [v0, v1, v2] ∧ ∀ p, H1 p = none → Q (.ref p) (upd H1 p (.tup [v2, v1, v0]))
theorem pe_rev3 {e : Expr} {te : TE} {k : Nat} {p1 p2 p3 pos : Pos} (he : PE X e te) : PE X (.Subscript e (.Slice none none (some (.UnaryOp .USub (.Constant (.int 1) k p1) p2)) p3) pos) (tRev3 X.K te) := by
  refine ⟨fun pins s σ H Q I h => ?_⟩
  refine Subscript_ (thn (he.run pins s σ H _ I h) fun v s1 ⟨x, H1, I1, r1, a, v0, v1, v2, ex, hx, q⟩ => ?_)
  subst ex
  cases r1
  have hst : PO X (some (.UnaryOp .USub (.Constant (.int 1) k p1) p2)) (tPart (tUn (rU fun i => .int (-i)) (tC (.int 1)))) := po_some (pe_un un_neg pe_int)
  refine wpAny_Slice (thn (po_none.run pins s1 σ H1 (fun o H2 => o = none ∧ H2 = H1) I1 ⟨rfl, rfl⟩) fun vl s2 ⟨l, H2, I2, pl, el, e2⟩ => ?_)
  subst el e2
  refine thn (po_none.run pins s2 σ H2 (fun o H3 => o = none ∧ H3 = H2) I2 ⟨rfl, rfl⟩) fun vu s3 ⟨u, H3, I3, pu, eu, e3⟩ => ?_
  subst eu e3
  refine thn (hst.run pins s3 σ H3 (fun o H4 => o = some (-1) ∧ H4 = H3) I3 ⟨1, rfl, -1, rfl, rfl, rfl⟩) fun vs s4 ⟨o, H4, I4, ps, eo, e4⟩ => ?_
  subst eo e4
  cases pl
  cases pu
  have I5 : Inv X pins σ H4 { s4 with heap := s4.heap.push { cls := .type "slice", data := .fields #[.none, .none, vs] } } := I4.kept (t' := s4.toks) fun b ob q => Heap.get?_push_of_some _ q
  obtain ⟨its, r, ht, hz⟩ := I5.tuple hx
  obtain ⟨u0, us, rfl, r0, r'⟩ : ∃ u0 us, its = u0 :: us ∧ RelV v0 u0 ∧ Vals [v1, v2] us := by cases r with | cons a b => exact ⟨_, _, rfl, a, b⟩
  obtain ⟨u1, u2, rfl, r1, r2⟩ := vals2 r'
  show wpAny (model X.prog X.w) X.A (subscriptTail e (.Slice none none (some (.UnaryOp .USub (.Constant (.int 1) k p1) p2)) p3) (.ref a) (.ref s4.heap.objs.size)) (EP X pins σ Q) X.xe { s4 with heap := s4.heap.push { cls := .type "slice", data := .fields #[.none, .none, vs] } }
  refine tail_any (ops := [.ref a, .ref s4.heap.objs.size]) ht.typeIs (PyProof.Rows.slot_tuple_getitem.lookup) ?_ (by with_unfolding_all rfl)
  refine get_rev3 ht (Heap.IsSliceOf.new _ .none .none vs) ps ?_
  refine ⟨.ref _, _, I5.laid (t' := s4.toks) (o := .tup [v2, v1, v0]) (fun b ob q => Heap.get?_push_of_some _ q) (Nat.le_refl _) ?_, rfl, q _ (I5.hok.fresh (Nat.le_refl _))⟩
  exact ⟨(by decide : 3 ≤ 16777216), _, .cons r2 (.cons r1 (.cons r0 .nil)), ⟨_, Heap.get?_push_size _ rfl, rfl, _, rfl⟩⟩
/-! ### repr of data, and of the empty dict -/
def rReprT (K : PySem.W.Frag) : List V → Hp → VK → Prop := fun xs H Q => rReprA K xs H Q ∨ ∃ a : Addr, xs = [.ref a] ∧ H a = some (.dK []) ∧ Q (.str "{}") H
theorem call_reprT (hA : X.A.guards = some []) (hu : X.A.units + 64 < cLine) : CallR X (.builtin "repr") (rReprT X.K) := by
  rintro pins s σ H xs us Q I r (h | ⟨a, rfl, ha, q⟩)
  · exact call_reprA hA hu pins s σ H xs us Q I r h
  · obtain ⟨u, rfl, rx⟩ := vals1 r
    cases rx
    obtain ⟨_, sm, vs, kv, o, es, ep, ho, hx, hd, _, pr, _⟩ := dk_of I.hok ha
    have e0 : es.toList = [] := by
      cases kv
      cases h : es.toList with
      | nil => rfl
      | cons z zs => rw [h] at pr; cases pr
    have rd : Reads s.heap (.ref a) (.dict []) (a :: [] ++ []) := Reads.dict ho hx.1 hd (by rw [e0]; exact .nil) (by rw [e0]; exact .nil)
    refine repr_of_reads' rd rfl (fun _ hm => ?_) hA (by show X.A.units + 2 < cLine; omega) (fun _ _ e => e) (fun h' u tk hk => ⟨.str "{}", H, I.kept hk, ⟨_, rfl⟩, q⟩) (by decide)
    have : sysModules = a := by simpa using hm
    rw [this] at sm
    simp at sm
end
end My

namespace My
open PySem L2 TL NumText
/-! ### texts of whole numbers and of Numbers -/
def TI (i : Int) : Str := Str.ofString (toString i)
def signL (i : Int) : List Nat := if i < 0 then 45 :: numL i.natAbs else numL i.natAbs
theorem tl_TI (i : Int) : tl (TI i) = signL i := by
  unfold TI signL
  by_cases h : i < 0
  · rw [if_pos h]
    obtain ⟨m, rfl⟩ := Int.eq_negSucc_of_lt_zero h
    have e : toString (Int.negSucc m) = "-" ++ toString (((m + 1 : Nat)) : Int) := rfl
    rw [e, tl_ofString, String.toList_append, List.map_append, ← tl_ofString (toString (((m + 1 : Nat)) : Int)), tl_num]
    rfl
  · rw [if_neg h]
    obtain ⟨n, rfl⟩ := Int.eq_ofNat_of_zero_le (show 0 ≤ i by omega)
    exact tl_num n
theorem signL_inj {i j : Int} (h : signL i = signL j) : i = j := by
  unfold signL at h
  have f : ∀ n, (45 : Nat) ∉ numL n := fun n => numL_free (by decide)
  by_cases a : i < 0 <;> by_cases b : j < 0
  · rw [if_pos a, if_pos b] at h
    have := numL_inj (List.cons.inj h).2
    omega
  · rw [if_pos a, if_neg b] at h
    exact absurd (h ▸ List.mem_cons_self ..) (f _)
  · rw [if_neg a, if_pos b] at h
    exact absurd (h ▸ List.mem_cons_self ..) (f _)
  · rw [if_neg a, if_neg b] at h
    have := numL_inj h
    omega
theorem TI_inj {i j : Int} (h : TI i = TI j) : i = j := signL_inj (by rw [← tl_TI, ← tl_TI, h])
theorem free_signL {s : Nat} (h : s ≠ 45) (h2 : s < 48 ∨ 57 < s) (i : Int) : s ∉ signL i := by
  unfold signL
  split
  · intro z
    rcases List.mem_cons.mp z with z | z
    · exact h z
    · exact numL_free h2 z
  · exact numL_free h2
theorem signL_len {i : Int} {k : Nat} (hk : 0 < k) (h : i.natAbs < 10 ^ k) : (signL i).length ≤ k + (if i < 0 then 1 else 0) := by
  have := numL_len hk h
  unfold signL
  split
  · rw [List.length_cons]; omega
  · omega
theorem signL_ne (i : Int) : signL i ≠ [] := by
  unfold signL
  split
  · exact List.cons_ne_nil _ _
  · exact numL_ne _
theorem int_TI {i : Int} (h : (TI i).length ≤ 4300) : intText? (TI i) = some i := by
  by_cases z : i < 0
  · have e : (TI i).cps.toList = 45 :: numL i.natAbs := by
      have := tl_TI i
      unfold signL at this
      rw [if_pos z] at this
      exact this
    have := intText_neg e (numL_digits _) (numL_ne _) h
    rw [this, numL_val]
    congr 1
    omega
  · obtain ⟨n, rfl⟩ := Int.eq_ofNat_of_zero_le (show 0 ≤ i by omega)
    have l : (numL n).length ≤ 4300 := by
      have := len_tl (TI (n : Int))
      rw [tl_TI] at this
      unfold signL at this
      rw [if_neg z] at this
      rw [this] at h
      exact h
    exact int_num l
/-- the text of a Number -/
def NText (x : Rat) : Str := if x.den = 1 then TI x.num else TI x.num ++ "/" ++ TI (x.den : Int)
theorem nat_signL (n : Nat) : signL (n : Int) = numL n := by
  unfold signL
  rw [if_neg (by omega)]
  rfl
theorem tl_NText (x : Rat) : tl (NText x) = if x.den = 1 then signL x.num else signL x.num ++ 47 :: numL x.den := by
  unfold NText
  split
  · exact tl_TI _
  · have e : tl ("/" : Str) = [47] := rfl
    rw [tl_append, tl_append, tl_TI, tl_TI, nat_signL, e]
    simp
theorem part_none {x : Rat} (h : x.den = 1) : Txt.partition (NText x) "/" = (TI x.num, Str.empty, Str.empty) := by
  have e : NText x = TI x.num := if_pos h
  rw [e]
  exact partition_none (s := 47) (S := []) rfl (by rw [tl_TI]; exact free_signL (by decide) (by decide) _)
theorem part_some {x : Rat} (h : x.den ≠ 1) : Txt.partition (NText x) "/" = (TI x.num, ("/" : Str), TI (x.den : Int)) := by
  have e : NText x = TI x.num ++ "/" ++ TI (x.den : Int) := if_neg h
  rw [e]
  exact partition_app (s := 47) (S := []) rfl (by rw [tl_TI]; exact free_signL (by decide) (by decide) _)
theorem minus_off (i : Int) : tl (Txt.removeprefix (TI i) "-") = numL i.natAbs := by
  rw [PySem.StrLaws.removeprefix_eq]
  have hx : (TI i).cps.toList = signL i := tl_TI i
  have ll : (TI i).length = (signL i).length := by rw [len_tl, tl_TI]
  have hy : ("-" : Str).cps.toList = [45] := rfl
  have y1 : ("-" : Str).length = 1 := rfl
  rw [PySem.StrLaws.subAt_eq, hx, hy, y1, ll, List.drop_zero]
  unfold signL
  by_cases z : i < 0
  · rw [if_pos z]
    have e : ((45 :: numL i.natAbs).take 1 == [45]) = true := rfl
    rw [e, if_pos (by rw [Bool.and_true]; exact decide_eq_true (by rw [List.length_cons]; omega))]
    show (45 :: numL i.natAbs).tail.take _ = _
    rw [List.tail_cons, List.length_cons]
    exact List.take_of_length_le (by omega)
  · rw [if_neg z]
    have f : (45 : Nat) ∉ numL i.natAbs := numL_free (by decide)
    have e : ((numL i.natAbs).take 1 == [45]) = false := by
      generalize numL i.natAbs = l at *
      cases l with
      | nil => rfl
      | cons c r =>
        have c0 : c ≠ 45 := fun q => f (by rw [q]; exact List.mem_cons_self ..)
        show ((c :: List.take 0 r) == [45]) = false
        rw [List.take_zero]
        simpa using c0
    rw [e, Bool.and_false, if_neg (by decide)]
    have := tl_TI i
    unfold signL at this
    rw [if_neg z] at this
    exact this
theorem digit_is : ∀ c : Nat, 48 ≤ c → c ≤ 57 → Unicode.isDigit c = true ∧ decide (c < 128) = true := by
  intro c h1 h2
  have h : c = 48 ∨ c = 49 ∨ c = 50 ∨ c = 51 ∨ c = 52 ∨ c = 53 ∨ c = 54 ∨ c = 55 ∨ c = 56 ∨ c = 57 := by omega
  rcases h with rfl | rfl | rfl | rfl | rfl | rfl | rfl | rfl | rfl | rfl <;> decide +kernel
theorem all_list {x : Str} {p : Nat → Bool} : x.cps.all p = (tl x).all p := by
  show x.cps.all p = x.cps.toList.all p
  exact (Array.all_toList ..).symm
theorem ascii_off (i : Int) : Txt.isascii (Txt.removeprefix (TI i) "-") = true := by
  unfold Txt.isascii
  rw [all_list, minus_off, List.all_eq_true]
  intro c hc
  have := numL_digits _ c hc
  exact (digit_is c this.1 this.2).2
theorem digits_off (i : Int) : Txt.isdigit (Txt.removeprefix (TI i) "-") = true := by
  unfold Txt.isdigit
  rw [all_list, minus_off, len_tl, minus_off, Bool.and_eq_true, List.all_eq_true]
  constructor
  · have := numL_ne i.natAbs
    generalize numL i.natAbs = l at *
    cases l with
    | nil => exact absurd rfl this
    | cons _ _ => exact decide_eq_true (by rw [List.length_cons]; omega)
  · intro c hc
    have := numL_digits _ c hc
    exact (digit_is c this.1 this.2).1
theorem TI_len (i : Int) : (TI i).length = (signL i).length := by rw [len_tl, tl_TI]
theorem NText_len (x : Rat) : (NText x).length = if x.den = 1 then (signL x.num).length else (signL x.num).length + 1 + (numL x.den).length := by
  rw [len_tl, tl_NText]
  split
  · rfl
  · rw [List.length_append, List.length_cons]; omega
end My

namespace My
open PySem L2 TL NumText
/-! ### texts of tuples: what is shown as three whole numbers is three whole numbers -/
/-- what may stand in a paper that was bent -/
inductive El where
  | int (z : Int) | bool (v : Bool) | str (z : Int) | non | tup (z : Int) | lst (z : Int)
  deriving DecidableEq
def El.data : El → PyData
  | .int z => .int z | .bool v => .bool v | .str z => .str (TI z) | .non => .none | .tup z => .tuple [.int z] | .lst z => .list [.int z]
def El.isI : El → Bool
  | .int _ => true
  | _ => false
def Fine (c : Nat) : Prop := c = 44 ∨ c = 32 ∨ c = 45 ∨ (48 ≤ c ∧ c ≤ 57)
theorem fine_signL {i : Int} {c : Nat} (h : c ∈ signL i) : Fine c := by
  unfold signL at h
  split at h
  · rcases List.mem_cons.mp h with h | h
    · exact .inr (.inr (.inl h))
    · exact .inr (.inr (.inr (numL_digits _ c h)))
  · exact .inr (.inr (.inr (numL_digits _ c h)))
theorem mem_joinL {sep : List Nat} {c : Nat} : ∀ {ps : List (List Nat)} {p : List Nat}, p ∈ ps → c ∈ p → c ∈ joinL sep ps
  | [], _, h, _ => by cases h
  | [q], p, h, hc => by
    rw [List.mem_singleton.mp h] at hc
    exact hc
  | q :: r :: t, p, h, hc => by
    show c ∈ q ++ (sep ++ joinL sep (r :: t))
    rcases List.mem_cons.mp h with rfl | h
    · exact List.mem_append_left _ hc
    · exact List.mem_append_right _ (List.mem_append_right _ (mem_joinL h hc))
theorem in_joinL {sep : List Nat} {c : Nat} : ∀ {ps : List (List Nat)}, c ∈ joinL sep ps → c ∈ sep ∨ ∃ p ∈ ps, c ∈ p
  | [], h => by cases h
  | [q], h => .inr ⟨q, List.mem_singleton_self _, h⟩
  | q :: r :: t, h => by
    have h' : c ∈ q ++ (sep ++ joinL sep (r :: t)) := h
    rcases List.mem_append.mp h' with h | h
    · exact .inr ⟨q, List.mem_cons_self .., h⟩
    · rcases List.mem_append.mp h with h | h
      · exact .inl h
      · rcases in_joinL h with h | ⟨p, hp, hc⟩
        · exact .inl h
        · exact .inr ⟨p, List.mem_cons_of_mem _ hp, hc⟩
theorem quote_is (x : Str) : reprQuote x = 39 ∨ reprQuote x = 34 := by
  unfold reprQuote
  split <;> simp
theorem quote_in (x : Str) : reprQuote x ∈ tl (reprText x) := by
  unfold reprText
  show _ ∈ (Array.push _ _).toList
  rw [Array.toList_push]
  exact List.mem_append_right _ (List.mem_singleton_self _)
theorem not_fine : ∀ {e : El}, e.isI = false → ∃ c, c ∈ tl (PyData.shown e.data) ∧ ¬ Fine c
  | .int _, h => by cases h
  | .bool true, _ => ⟨84, by show 84 ∈ tl ("True" : Str); decide +kernel, by unfold Fine; omega⟩
  | .bool false, _ => ⟨70, by show 70 ∈ tl ("False" : Str); decide +kernel, by unfold Fine; omega⟩
  | .str n, _ => ⟨reprQuote (TI n), quote_in _, by rcases quote_is (TI n) with h | h <;> rw [h] <;> unfold Fine <;> omega⟩
  | .non, _ => ⟨78, by show 78 ∈ tl ("None" : Str); decide +kernel, by unfold Fine; omega⟩
  | .tup n, _ => ⟨40, by
      show 40 ∈ tl (("(" : Str) ++ TI n ++ ",)")
      rw [tl_append, tl_append]
      exact List.mem_append_left _ (List.mem_append_left _ (by decide +kernel)), by unfold Fine; omega⟩
  | .lst n, _ => ⟨91, by
      have e : PyData.shown (El.lst n).data = ("[" : Str) ++ "" ++ TI n ++ "]" := rfl
      rw [e, tl_append, tl_append, tl_append]
      exact List.mem_append_left _ (List.mem_append_left _ (List.mem_append_left _ (by decide +kernel))), by unfold Fine; omega⟩
theorem shown_all : ∀ es : List El, PyData.shownAll (es.map El.data) = es.map fun e => PyData.shown e.data
  | [] => rfl
  | e :: es => by
    show PyData.shown e.data :: PyData.shownAll (es.map El.data) = _
    rw [shown_all es]
    rfl
theorem tl_tuple {ts : List Str} (h : ts.length ≠ 1) : tl (tupleText ts) = 40 :: (joinL [44, 32] (ts.map tl) ++ [41]) := by
  unfold tupleText
  rw [if_neg (by simpa using h), tl_append, tl_append, tl_join]
  rfl
theorem all_i : ∀ {es : List El}, (∀ e ∈ es, e.isI = true) → ∃ is : List Int, es = is.map El.int
  | [], _ => ⟨[], rfl⟩
  | e :: es, h => by
    obtain ⟨is, rfl⟩ := all_i fun x hx => h x (List.mem_cons_of_mem _ hx)
    have he := h e (List.mem_cons_self ..)
    cases e with
    | int n => exact ⟨n :: is, rfl⟩
    | _ => cases he
theorem three_text {l h t : Int} {es : List El} (n1 : es.length ≠ 1) (e : PyData.shown (.tuple (es.map El.data)) = PyData.shown (.tuple [.int l, .int h, .int t])) : es = [.int l, .int h, .int t] := by
  have e1 : PyData.shown (.tuple [.int l, .int h, .int t]) = tupleText [TI l, TI h, TI t] := rfl
  have e2 : PyData.shown (.tuple (es.map El.data)) = tupleText (es.map fun x => PyData.shown x.data) := by
    show tupleText (PyData.shownAll _) = _
    rw [shown_all]
  rw [e1, e2] at e
  have e3 := congrArg tl e
  rw [tl_tuple (by rw [List.length_map]; exact n1), tl_tuple (show [TI l, TI h, TI t].length ≠ 1 by simp), List.map_map] at e3
  have e4 := List.append_cancel_right (List.cons.inj e3).2
  have rhs : ([TI l, TI h, TI t] : List Str).map tl = [signL l, signL h, signL t] := by
    simp only [List.map_cons, List.map_nil, tl_TI]
  rw [rhs] at e4
  have fine : ∀ c ∈ joinL [44, 32] [signL l, signL h, signL t], Fine c := fun c hc => by
    rcases in_joinL hc with hc | ⟨p, hp, hc⟩
    · simp only [List.mem_cons, List.not_mem_nil, or_false] at hc
      rcases hc with rfl | rfl
      · exact .inl rfl
      · exact .inr (.inl rfl)
    · simp only [List.mem_cons, List.not_mem_nil, or_false] at hp
      rcases hp with rfl | rfl | rfl <;> exact fine_signL hc
  have allI : ∀ x ∈ es, x.isI = true := fun x hx => by
    cases q : x.isI with
    | true => rfl
    | false =>
      obtain ⟨c, hc, nf⟩ := not_fine q
      refine absurd (fine c ?_) nf
      rw [← e4]
      exact mem_joinL (List.mem_map.mpr ⟨x, hx, rfl⟩) hc
  obtain ⟨is, rfl⟩ := all_i allI
  rw [List.map_map] at e4
  have parts : (is.map (((tl ∘ fun x => PyData.shown x.data)) ∘ El.int)) = is.map signL := by
    refine List.map_congr_left fun i _ => ?_
    exact tl_TI i
  rw [parts] at e4
  have free : ∀ i : Int, (44 : Nat) ∉ signL i := fun i => free_signL (by decide) (by decide) i
  have ne : is.map signL ≠ [] := fun z => by
    rw [z] at e4
    have : joinL [44, 32] [signL l, signL h, signL t] = signL l ++ ([44, 32] ++ joinL [44, 32] [signL h, signL t]) := rfl
    rw [this] at e4
    have l0 := congrArg List.length e4
    simp [joinL] at l0
  have s1 := spl_join (s := 44) (S := [32]) ne (fun p hp => by
    obtain ⟨i, _, rfl⟩ := List.mem_map.mp hp
    exact free i)
  have s2 := spl_join (s := 44) (S := [32]) (parts := [signL l, signL h, signL t]) (by simp) (fun p hp => by
    simp only [List.mem_cons, List.not_mem_nil, or_false] at hp
    rcases hp with rfl | rfl | rfl <;> exact free _)
  have e5 : is.map signL = [signL l, signL h, signL t] := by rw [← s1, ← s2, e4]
  have inj : ∀ {xs ys : List Int}, xs.map signL = ys.map signL → xs = ys := by
    intro xs
    induction xs with
    | nil =>
      intro ys q
      cases ys with
      | nil => rfl
      | cons _ _ => cases q
    | cons x xs ih =>
      intro ys q
      cases ys with
      | nil => cases q
      | cons y ys =>
        obtain ⟨q1, q2⟩ := List.cons.inj q
        rw [signL_inj q1, ih q2]
  have e6 : is = [l, h, t] := inj (ys := [l, h, t]) e5
  rw [e6]
  rfl
end My

namespace My
open PySem L2
def top (i : Nat) : Stmt := PySem.Challenge.pw_figuretexts_k12_papers_of_roundings_by_a.main.body.getD i (.Pass ⟨0, 0, 0, 0⟩)
abbrev s_is_whole : Stmt := top 3
theorem sc_is_whole : FnScope ["thing"] ["thing"] (defScope s_is_whole) := ⟨rfl, rfl, rfl, by decide +kernel, rfl, by decide +kernel, by decide +kernel⟩
abbrev s_round_holds : Stmt := top 5
theorem sc_round_holds : FnScope ["number", "step", "way", "thing", "low", "high", "taken", "steps", "part"] ["number", "step", "way", "thing"] (defScope s_round_holds) := ⟨rfl, rfl, rfl, by decide +kernel, rfl, by decide +kernel, by decide +kernel⟩
abbrev s_are_neighbours : Stmt := top 6
theorem sc_are_neighbours : FnScope ["steps", "low", "high"] ["steps", "low", "high"] (defScope s_are_neighbours) := ⟨rfl, rfl, rfl, by decide +kernel, rfl, by decide +kernel, by decide +kernel⟩
abbrev s_goes_to : Stmt := top 7
theorem sc_goes_to : FnScope ["steps", "way", "taken", "other", "off_taken", "off_other", "rule"] ["steps", "way", "taken", "other"] (defScope s_goes_to) := ⟨rfl, rfl, rfl, by decide +kernel, rfl, by decide +kernel, by decide +kernel⟩
abbrev s_is_from_nought : Stmt := top 8
theorem sc_is_from_nought : FnScope ["taken", "other"] ["taken", "other"] (defScope s_is_from_nought) := ⟨rfl, rfl, rfl, by decide +kernel, rfl, by decide +kernel, by decide +kernel⟩
abbrev s_is_to_nought : Stmt := top 9
theorem sc_is_to_nought : FnScope ["taken", "other"] ["taken", "other"] (defScope s_is_to_nought) := ⟨rfl, rfl, rfl, by decide +kernel, rfl, by decide +kernel, by decide +kernel⟩
abbrev s_is_greater : Stmt := top 10
theorem sc_is_greater : FnScope ["taken", "other"] ["taken", "other"] (defScope s_is_greater) := ⟨rfl, rfl, rfl, by decide +kernel, rfl, by decide +kernel, by decide +kernel⟩
abbrev s_is_lesser : Stmt := top 11
theorem sc_is_lesser : FnScope ["taken", "other"] ["taken", "other"] (defScope s_is_lesser) := ⟨rfl, rfl, rfl, by decide +kernel, rfl, by decide +kernel, by decide +kernel⟩
abbrev s_is_even : Stmt := top 12
theorem sc_is_even : FnScope ["taken", "other"] ["taken", "other"] (defScope s_is_even) := ⟨rfl, rfl, rfl, by decide +kernel, rfl, by decide +kernel, by decide +kernel⟩
abbrev s_is_odd : Stmt := top 13
theorem sc_is_odd : FnScope ["taken", "other"] ["taken", "other"] (defScope s_is_odd) := ⟨rfl, rfl, rfl, by decide +kernel, rfl, by decide +kernel, by decide +kernel⟩
abbrev s_Number_init : Stmt := inClass (top 18) 0
theorem sc_Number_init : FnScope ["self", "top", "bottom", "common"] ["self", "top", "bottom"] (defScope s_Number_init) := ⟨rfl, rfl, rfl, by decide +kernel, rfl, by decide +kernel, by decide +kernel⟩
abbrev s_Number_eq : Stmt := inClass (top 18) 1
theorem sc_Number_eq : FnScope ["self", "other"] ["self", "other"] (defScope s_Number_eq) := ⟨rfl, rfl, rfl, by decide +kernel, rfl, by decide +kernel, by decide +kernel⟩
abbrev s_Number_over : Stmt := inClass (top 18) 7
theorem sc_Number_over : FnScope ["self", "other"] ["self", "other"] (defScope s_Number_over) := ⟨rfl, rfl, rfl, by decide +kernel, rfl, by decide +kernel, by decide +kernel⟩
abbrev s_l_deck : Stmt := top 21
theorem sc_l_deck : FnScope ["_law_script", "_law_cells", "_law_seed", "_law_cell"] ["_law_script"] (defScope s_l_deck) := ⟨rfl, rfl, rfl, by decide +kernel, rfl, by decide +kernel, by decide +kernel⟩
abbrev s_l_draw : Stmt := top 22
theorem sc_l_draw : FnScope ["_law_deck_here", "_law_ways", "_law_cell", "_law_number"] ["_law_deck_here", "_law_ways"] (defScope s_l_draw) := ⟨rfl, rfl, rfl, by decide +kernel, rfl, by decide +kernel, by decide +kernel⟩
abbrev s_l_grain : Stmt := top 23
theorem sc_l_grain : FnScope ["_law_deck_here", "_law_tens", "_law_some"] ["_law_deck_here"] (defScope s_l_grain) := ⟨rfl, rfl, rfl, by decide +kernel, rfl, by decide +kernel, by decide +kernel⟩
abbrev s_l_near : Stmt := top 24
theorem sc_l_near : FnScope ["_law_deck_here", "_law_grain_here", "_law_some", "_law_count_here", "_law_pieces", "_law_half", "_law_rest"] ["_law_deck_here", "_law_grain_here"] (defScope s_l_near) := ⟨rfl, rfl, rfl, by decide +kernel, rfl, by decide +kernel, by decide +kernel⟩
abbrev s_l_steps : Stmt := top 25
theorem sc_l_steps : FnScope ["_law_number", "_law_grain_here", "_law_top", "_law_bottom", "_law_low"] ["_law_number", "_law_grain_here"] (defScope s_l_steps) := ⟨rfl, rfl, rfl, by decide +kernel, rfl, by decide +kernel, by decide +kernel⟩
abbrev s_l_count : Stmt := top 26
theorem sc_l_count : FnScope ["_law_number", "_law_grain_here", "_law_rule", "_law_low", "_law_rest", "_law_whole", "_law_above", "_law_far", "_law_near_here", "_law_by_name", "_law_even"] ["_law_number", "_law_grain_here", "_law_rule"] (defScope s_l_count) := ⟨rfl, rfl, rfl, by decide +kernel, rfl, by decide +kernel, by decide +kernel⟩
abbrev s_l_other : Stmt := top 27
theorem sc_l_other : FnScope ["_law_deck_here", "_law_thing", "_law_how", "_law_at", "_law_one", "_law_some", "_law_rows"] ["_law_deck_here", "_law_thing"] (defScope s_l_other) := ⟨rfl, rfl, rfl, by decide +kernel, rfl, by decide +kernel, by decide +kernel⟩
abbrev s_l_right : Stmt := top 28
theorem sc_l_right : FnScope ["_law_here", "_law_unit_step", "_law_rule", "_law_due", "_law_thing", "_law_kept", "_law_found", "_law_good"] ["_law_here", "_law_unit_step", "_law_rule", "_law_due", "_law_thing"] (defScope s_l_right) := ⟨rfl, rfl, rfl, by decide +kernel, rfl, by decide +kernel, by decide +kernel⟩
abbrev s_law : Stmt := top 29
theorem sc_law : FnScope ["_law_script", "_law_deck_here", "_law_turn", "_law_rule", "_law_twices", "_law_grain_here", "_law_number", "_law_here", "_law_unit_step", "_law_low", "_law_rest", "_law_whole", "_law_due", "_law_things", "_law_twice", "_law_bent", "_law_k", "_law_thing"] ["_law_script"] (defScope s_law) := ⟨rfl, rfl, rfl, by decide +kernel, rfl, by decide +kernel, by decide +kernel⟩
structure Txt (w : World) (K : PySem.W.Frag) (mg : Str → Option Value) where
  C_Number : Addr
  m_Number : mg "Number" = some (.ref C_Number)
  c_Number : Cls K C_Number
  n_Number_top : NoAttr K C_Number "top"
  n_Number_bottom : NoAttr K C_Number "bottom"
  ty_Number_c : PySem.W.findIn K (.ref C_Number) "__class__" = some (some (.builtin "object.__class__"))
  ty_Number_g : PySem.W.specialIn K (.builtin "object.__class__") "__get__" = some (some (.builtin "getset_descriptor.__get__"))
  ty_Number_t : PySem.W.takesIn K (.builtin "object.__class__") = some true
  ty_Number_m : PySem.W.mroIn K C_Number (.type "object") = some true
  ty_Number_k : PySem.W.kitOne K (.ref C_Number) (.ref C_Number) = some true
  ne_Number : PySem.W.findIn K (.ref C_Number) "__ne__" = some (some (.builtin "object.__ne__"))
  f_is_whole : Addr
  fd_is_whole : FuncData
  F_is_whole : Fun K "is_whole" "is_whole" s_is_whole f_is_whole fd_is_whole
  m_is_whole : mg "is_whole" = some (.ref f_is_whole)
  b_is_whole : Binds K fd_is_whole ["thing"] []
  f_round_holds : Addr
  fd_round_holds : FuncData
  F_round_holds : Fun K "round_holds" "round_holds" s_round_holds f_round_holds fd_round_holds
  m_round_holds : mg "round_holds" = some (.ref f_round_holds)
  b_round_holds : Binds K fd_round_holds ["number", "step", "way", "thing"] []
  f_are_neighbours : Addr
  fd_are_neighbours : FuncData
  F_are_neighbours : Fun K "_are_neighbours" "_are_neighbours" s_are_neighbours f_are_neighbours fd_are_neighbours
  m_are_neighbours : mg "_are_neighbours" = some (.ref f_are_neighbours)
  b_are_neighbours : Binds K fd_are_neighbours ["steps", "low", "high"] []
  f_goes_to : Addr
  fd_goes_to : FuncData
  F_goes_to : Fun K "_goes_to" "_goes_to" s_goes_to f_goes_to fd_goes_to
  m_goes_to : mg "_goes_to" = some (.ref f_goes_to)
  b_goes_to : Binds K fd_goes_to ["steps", "way", "taken", "other"] []
  f_is_from_nought : Addr
  fd_is_from_nought : FuncData
  F_is_from_nought : Fun K "_is_from_nought" "_is_from_nought" s_is_from_nought f_is_from_nought fd_is_from_nought
  m_is_from_nought : mg "_is_from_nought" = some (.ref f_is_from_nought)
  b_is_from_nought : Binds K fd_is_from_nought ["taken", "other"] []
  f_is_to_nought : Addr
  fd_is_to_nought : FuncData
  F_is_to_nought : Fun K "_is_to_nought" "_is_to_nought" s_is_to_nought f_is_to_nought fd_is_to_nought
  m_is_to_nought : mg "_is_to_nought" = some (.ref f_is_to_nought)
  b_is_to_nought : Binds K fd_is_to_nought ["taken", "other"] []
  f_is_greater : Addr
  fd_is_greater : FuncData
  F_is_greater : Fun K "_is_greater" "_is_greater" s_is_greater f_is_greater fd_is_greater
  m_is_greater : mg "_is_greater" = some (.ref f_is_greater)
  b_is_greater : Binds K fd_is_greater ["taken", "other"] []
  f_is_lesser : Addr
  fd_is_lesser : FuncData
  F_is_lesser : Fun K "_is_lesser" "_is_lesser" s_is_lesser f_is_lesser fd_is_lesser
  m_is_lesser : mg "_is_lesser" = some (.ref f_is_lesser)
  b_is_lesser : Binds K fd_is_lesser ["taken", "other"] []
  f_is_even : Addr
  fd_is_even : FuncData
  F_is_even : Fun K "_is_even" "_is_even" s_is_even f_is_even fd_is_even
  m_is_even : mg "_is_even" = some (.ref f_is_even)
  b_is_even : Binds K fd_is_even ["taken", "other"] []
  f_is_odd : Addr
  fd_is_odd : FuncData
  F_is_odd : Fun K "_is_odd" "_is_odd" s_is_odd f_is_odd fd_is_odd
  m_is_odd : mg "_is_odd" = some (.ref f_is_odd)
  b_is_odd : Binds K fd_is_odd ["taken", "other"] []
  f_Number_init : Addr
  fd_Number_init : FuncData
  F_Number_init : FunD K "__init__" "Number.__init__" (defArgs s_Number_init) (defBody s_Number_init) (defScope s_Number_init) [V.int 1] [] f_Number_init fd_Number_init
  mk_Number : Mk K C_Number f_Number_init
  b_Number_init2 : Binds K fd_Number_init ["self", "top", "bottom"] []
  ds_Number_init1 : List Value
  d_Number_init1 : Vals [V.int 1] ds_Number_init1
  b_Number_init1 : Binds K fd_Number_init ["self", "top", "bottom"] ds_Number_init1
  f_Number_eq : Addr
  fd_Number_eq : FuncData
  F_Number_eq : Fun K "__eq__" "Number.__eq__" s_Number_eq f_Number_eq fd_Number_eq
  me_Number_eq : Meth K C_Number "__eq__" f_Number_eq
  b_Number_eq : Binds K fd_Number_eq ["self", "other"] []
  f_Number_over : Addr
  fd_Number_over : FuncData
  F_Number_over : Fun K "over" "Number.over" s_Number_over f_Number_over fd_Number_over
  me_Number_over : Meth K C_Number "over" f_Number_over
  b_Number_over : Binds K fd_Number_over ["self", "other"] []
  f_l_deck : Addr
  fd_l_deck : FuncData
  F_l_deck : Fun K "_law_deck" "_law_deck" s_l_deck f_l_deck fd_l_deck
  m_l_deck : mg "_law_deck" = some (.ref f_l_deck)
  b_l_deck : Binds K fd_l_deck ["_law_script"] []
  f_l_draw : Addr
  fd_l_draw : FuncData
  F_l_draw : Fun K "_law_draw" "_law_draw" s_l_draw f_l_draw fd_l_draw
  m_l_draw : mg "_law_draw" = some (.ref f_l_draw)
  b_l_draw : Binds K fd_l_draw ["_law_deck_here", "_law_ways"] []
  f_l_grain : Addr
  fd_l_grain : FuncData
  F_l_grain : Fun K "_law_grain" "_law_grain" s_l_grain f_l_grain fd_l_grain
  m_l_grain : mg "_law_grain" = some (.ref f_l_grain)
  b_l_grain : Binds K fd_l_grain ["_law_deck_here"] []
  f_l_near : Addr
  fd_l_near : FuncData
  F_l_near : Fun K "_law_near" "_law_near" s_l_near f_l_near fd_l_near
  m_l_near : mg "_law_near" = some (.ref f_l_near)
  b_l_near : Binds K fd_l_near ["_law_deck_here", "_law_grain_here"] []
  f_l_steps : Addr
  fd_l_steps : FuncData
  F_l_steps : Fun K "_law_steps" "_law_steps" s_l_steps f_l_steps fd_l_steps
  m_l_steps : mg "_law_steps" = some (.ref f_l_steps)
  b_l_steps : Binds K fd_l_steps ["_law_number", "_law_grain_here"] []
  f_l_count : Addr
  fd_l_count : FuncData
  F_l_count : Fun K "_law_count" "_law_count" s_l_count f_l_count fd_l_count
  m_l_count : mg "_law_count" = some (.ref f_l_count)
  b_l_count : Binds K fd_l_count ["_law_number", "_law_grain_here", "_law_rule"] []
  f_l_other : Addr
  fd_l_other : FuncData
  F_l_other : Fun K "_law_other" "_law_other" s_l_other f_l_other fd_l_other
  m_l_other : mg "_law_other" = some (.ref f_l_other)
  b_l_other : Binds K fd_l_other ["_law_deck_here", "_law_thing"] []
  f_l_right : Addr
  fd_l_right : FuncData
  F_l_right : Fun K "_law_right" "_law_right" s_l_right f_l_right fd_l_right
  m_l_right : mg "_law_right" = some (.ref f_l_right)
  b_l_right : Binds K fd_l_right ["_law_here", "_law_unit_step", "_law_rule", "_law_due", "_law_thing"] []
  f_law : Addr
  fd_law : FuncData
  F_law : Fun K "law" "law" s_law f_law fd_law
  m_law : mg "law" = some (.ref f_law)
  b_law : Binds K fd_law ["_law_script"] []
  m_gcd : mg "gcd" = some (.builtin "math.gcd")
  n_range : mg "range" = none
  n_isinstance : mg "isinstance" = none
  n_str : mg "str" = none
  n_int : mg "int" = none
  n_list : mg "list" = none
  n_len : mg "len" = none
  n_abs : mg "abs" = none
  n_max : mg "max" = none
  n_bool : mg "bool" = none
  n_repr : mg "repr" = none
  n_tuple : mg "tuple" = none
  n_all : mg "all" = none
  A_WAYS : Addr
  m_WAYS : mg "WAYS" = some (.ref A_WAYS)
  t_WAYS : ∀ H : Hp, SqT K H A_WAYS [.str "up", .str "down", .str "high", .str "low", .str "half up", .str "half down", .str "half even", .str "half odd"]
  D_CHECKS : Addr
  m_CHECKS : mg "RULES" = some (.ref D_CHECKS)
  es_CHECKS : Array DictEntry
  en_CHECKS : Nat
  l_CHECKS : K.lookup D_CHECKS = some ⟨.type "dict", none, .dict es_CHECKS en_CHECKS, #[]⟩
  k_CHECKS : PySem.W.KeysLit w.params es_CHECKS.toList
  chk_is_from_nought : PySem.W.nsIn K D_CHECKS "up" = some (some (.ref f_is_from_nought))
  chk_is_to_nought : PySem.W.nsIn K D_CHECKS "down" = some (some (.ref f_is_to_nought))
  chk_is_greater : PySem.W.nsIn K D_CHECKS "high" = some (some (.ref f_is_greater))
  chk_is_lesser : PySem.W.nsIn K D_CHECKS "low" = some (some (.ref f_is_lesser))
  chk_is_even : PySem.W.nsIn K D_CHECKS "even" = some (some (.ref f_is_even))
  chk_is_odd : PySem.W.nsIn K D_CHECKS "odd" = some (some (.ref f_is_odd))

section
variable {P : Program} {w : World} {K : PySem.W.Frag} {mg : Str → Option Value} {base : Heap}
/-! ### Number -/
def nf (q : Rat) : List (Str × V) := [("top", .int q.num), ("bottom", .int (q.den : Int))]
theorem tb_ : ¬ (("top" : Str) = "bottom") := by decide +kernel
theorem bt_ : ¬ (("bottom" : Str) = "top") := by decide +kernel
theorem nf_put (a b : Int) : putF "bottom" (.int b) (putF "top" (.int a) []) = ([("top", V.int a), ("bottom", V.int b)] : List (Str × V)) := by
  show (if ("top" : Str) = "bottom" then [(("top" : Str), V.int b)] else (("top" : Str), V.int a) :: putF "bottom" (V.int b) []) = ([("top", V.int a), ("bottom", V.int b)] : List (Str × V))
  rw [if_neg tb_]
  all_goals rfl
theorem nf_top (q : Rat) : (nf q).lookup ("top" : Str) = some (.int q.num) := by
  have e : (("top" : Str) == "top") = true := by decide +kernel
  unfold nf
  simp only [List.lookup, e]
theorem nf_bottom (q : Rat) : (nf q).lookup ("bottom" : Str) = some (.int (q.den : Int)) := by
  have e : (("bottom" : Str) == "top") = false := by decide +kernel
  have e' : (("bottom" : Str) == "bottom") = true := by decide +kernel
  unfold nf
  simp only [List.lookup, e, e']
theorem nf_no (q : Rat) {m : Str} (h1 : (m == "top") = false) (h2 : (m == "bottom") = false) : (nf q).lookup m = none := by
  unfold nf
  simp only [List.lookup, h1, h2]
/-- the Number q stands at p -/
def NumAt (C : Addr) (H : Hp) (p : Addr) (q : Rat) : Prop := ∃ dx, H p = some (.ins C dx (nf q))
theorem NumAt.same {C : Addr} {H H' : Hp} {p : Addr} {q : Rat} (s : Same H H') (h : NumAt C H p q) : NumAt C H' p q := let ⟨dx, e⟩ := h; ⟨dx, s _ _ e⟩

def spInit (C : Addr) : Sp := fun vs H Q _ => ∃ (p dx : Addr) (t b : Int), vs = [.ref p, .int t, .int b] ∧ H p = some (.ins C dx []) ∧ b ≠ 0 ∧ b.natAbs < 2 ^ 9000 ∧ Q .non (upd H p (.ins C dx (nf (Rat.divInt t b))))
theorem ok_Number_init (T : Txt w K mg) : FnOk P w K mg base CX0 1 T.f_Number_init T.fd_Number_init ["self", "top", "bottom"] (spInit T.C_Number) := by
  refine T.F_Number_init.ok sc_Number_init (fun vs H Q E h => ?_) (fun cdv A outer s H vs Q E hr h => ?_)
  · obtain ⟨p, dx, t, b, rfl, _⟩ := h
    rfl
  · obtain ⟨p, dx, t, b, rfl, hp, hb, hl, k⟩ := h
    refine ⟨_, (pss_cons (ps_if (pt_cmpR op_eq (pv 2) pe_int (nomark _))
  (pss_one ps_never)
  pss_nil)
 (pss_cons (ps_set (i := 3) sc_Number_init.nd rfl (Or.inl rfl) (pe_callBfun cr_gcd (by rfl) T.m_gcd (pa_cons (pv 1) (pa_cons (pv 2) pa_nil))))
 (pss_cons (ps_if (pt_cmpR op_lt (pv 2) pe_int (nomark _))
  (pss_one (ps_set (i := 3) sc_Number_init.nd rfl (Or.inl rfl) (pe_un un_neg (pv 3))))
  pss_nil)
 (pss_cons (ps_fld (pv 0) (pe_op op_fdivA (pv 1) (pv 3)) rfl)
 (pss_one (ps_fld (pv 0) (pe_op op_fdivA (pv 2) (pv 3)) rfl)))))), ?_⟩
    walk_at "rd"
    refine r_iteF (decide_eq_false hb) ?_
    walk_at "rd"
    refine ⟨_, _, rfl, ?_⟩
    have fin : ∀ c : Int, c = cdiv t b → sFld K (tVar 0) (tOp (rI CDivA fun i j => .int (i.fdiv j)) (tVar 1) (tVar 3)) "top" ⟨sFld K (tVar 0) (tOp (rI CDivA fun i j => .int (i.fdiv j)) (tVar 2) (tVar 3)) "bottom" ⟨fun _ H' => Q .non H', Q, fun _ _ => False, fun _ _ => False⟩, Q, fun _ _ => False, fun _ _ => False⟩ [some (.ref p), some (.int t), some (.int b), some (.int c)] H := by
      rintro c rfl
      have hg := gcd_pos (t := t) hb
      have hc : CDivA t (cdiv t b) ∧ CDivA b (cdiv t b) := by
        have n0 : cdiv t b ≠ 0 := by unfold cdiv; split <;> omega
        have nb : (cdiv t b).natAbs < 2 ^ 9000 := by
          have le : Nat.gcd t.natAbs b.natAbs ≤ b.natAbs := Nat.le_of_dvd (by omega) (Nat.gcd_dvd_right _ _)
          have e : (cdiv t b).natAbs = Nat.gcd t.natAbs b.natAbs := by unfold cdiv; split <;> omega
          rw [e]
          exact Nat.lt_of_le_of_lt le hl
        exact ⟨cdivA n0 nb (by decide) (Nat.le_refl _), cdivA n0 nb (by decide) (Nat.le_refl _)⟩
      walk_at "rd"
      refine r_I hc.1 ?_
      walk_at "rd"
      refine ⟨p, T.C_Number, dx, [], rfl, hp, T.c_Number, T.n_Number_top, (by show 0 < 1000; decide), ?_⟩
      walk_at "rd"
      refine r_I hc.2 ?_
      walk_at "rd"
      refine ⟨p, T.C_Number, dx, _, rfl, upd_same, T.c_Number, T.n_Number_bottom, (by show 1 < 1000; decide), ?_⟩
      show Q .non (upd (upd H p _) p (.ins T.C_Number dx (putF "bottom" _ (putF "top" _ []))))
      rw [upd_upd, nf_put, num_of hb, den_of hb]
      exact k
    walk_at "rd"
    refine r_ite (fun hn => ?_) (fun hn => ?_)
    · iterate 5 walk_at "rd1"
      refine fin _ ?_
      unfold cdiv
      rw [if_pos (of_decide_eq_true hn)]
    · iterate 1 walk_at "rd1"
      refine fin _ ?_
      unfold cdiv
      rw [if_neg (of_decide_eq_false hn)]
end
end My
local macro_rules | `(tactic| walk_at "fld") => `(tactic| refine My.r_fld (by assumption) (by assumption) (by assumption) (by first | exact My.nf_top _ | exact My.nf_bottom _) ?_)
local macro_rules | `(tactic| walk_at "rdf") => `(tactic| (repeat (first | walk_at "rd1" | walk_at "fld")))


namespace My
open PySem L2
section
variable {P : Program} {w : World} {K : PySem.W.Frag} {mg : Str → Option Value} {base : Heap}
/-- a Number made at once -/
theorem mk_num {C : Addr} {H : Hp} {t b : Int} {R : Addr → Hp → Prop} {E : XK} (hb : b ≠ 0) (hl : b.natAbs < 2 ^ 9000) (q : ∀ (p : Addr) (H' : Hp), Same H H' → H p = none → NumAt C H' p (Rat.divInt t b) → R p H') :
    ∀ x dx, H x = none → H dx = none → dx ≠ x → spInit C (.ref x :: ([V.int t, V.int b] ++ [])) (upd (upd H dx (.own x)) x (.ins C dx [])) (fun v H2 => v = .non ∧ R x H2) E := by
  intro x dx nx ndx ne
  refine ⟨x, dx, t, b, rfl, upd_same, hb, hl, rfl, q x _ (fun y o e => ?_) nx ⟨dx, upd_same⟩⟩
  rw [upd_ne (ne_of_none e nx), upd_ne (ne_of_none e nx), upd_ne (ne_of_none e ndx)]
  exact e
theorem mk_num1 {C : Addr} {H : Hp} {t : Int} {R : Addr → Hp → Prop} {E : XK} (q : ∀ (p : Addr) (H' : Hp), Same H H' → H p = none → NumAt C H' p (t : Rat) → R p H') :
    ∀ x dx, H x = none → H dx = none → dx ≠ x → spInit C (.ref x :: ([V.int t] ++ [V.int 1])) (upd (upd H dx (.own x)) x (.ins C dx [])) (fun v H2 => v = .non ∧ R x H2) E :=
  mk_num (by decide) (Nat.lt_of_lt_of_le (by decide : Int.natAbs 1 < 2 ^ 1) (Nat.pow_le_pow_right (by decide) (by decide))) fun p H' s n h => q p H' s n (divInt_one t ▸ h)
/-- two Numbers in, one out -/
def spBin (C : Addr) (f : Rat → Rat → Rat) (ok : Rat → Rat → Prop) : Sp := fun vs H Q _ => ∃ (p q : Addr) (x y : Rat), vs = [.ref p, .ref q] ∧ NumAt C H p x ∧ NumAt C H q y ∧ Bd 4000 x ∧ Bd 4000 y ∧ ok x y ∧
  ∀ (r : Addr) (H' : Hp), Same H H' → H r = none → NumAt C H' r (f x y) → Q (.ref r) H'
theorem bd_den {n : Nat} {x : Rat} (h : Bd n x) : ((x.den : Nat) : Int).natAbs < 2 ^ n := by have := h.2; omega
theorem dd_ne (x y : Rat) : (x.den : Int) * (y.den : Int) ≠ 0 := Int.mul_ne_zero (den_ne x) (den_ne y)
theorem dd_lt {x y : Rat} (hx : Bd 4000 x) (hy : Bd 4000 y) : ((x.den : Int) * (y.den : Int)).natAbs < 2 ^ 9000 := natAbs_mul_lt (bd_den hx) (bd_den hy) (by decide)
theorem cm {i j : Int} (hi : i.natAbs < 2 ^ 4000) (hj : j.natAbs < 2 ^ 4000) : CMulW i j := wide_mul hi hj (by decide) (by decide) (by decide)
end
end My

namespace My
open PySem L2
section
variable {P : Program} {w : World} {K : PySem.W.Frag} {mg : Str → Option Value} {base : Heap}
theorem ok_Number_over (T : Txt w K mg) : FnOk P w K mg base CX0 3 T.f_Number_over T.fd_Number_over ["self", "other"] (spBin T.C_Number (fun x y => x / y) fun _ y => y ≠ 0) := by
  refine T.F_Number_over.ok sc_Number_over (fun vs H Q E h => ?_) (fun cdv A outer s H vs Q E hr h => ?_)
  · obtain ⟨p, q, x, y, rfl, _⟩ := h
    rfl
  · obtain ⟨p, q, x, y, rfl, ⟨dx, hp⟩, ⟨dy, hq⟩, bx, by', y0, k⟩ := h
    have cN := T.c_Number
    have nT := T.n_Number_top
    have nB := T.n_Number_bottom
    refine ⟨_, (pss_cons (ps_if (pt_cmpR op_eq (pe_fld (pv 1) rfl) pe_int (nomark _))
  (pss_one ps_never)
  pss_nil)
 (pss_one (ps_ret (pe_make T.mk_Number (ok_Number_init T) (hr.mono (by decide)) (by rfl) T.m_Number T.b_Number_init2 .nil pass0 (pa_cons (pe_op op_mulW (pe_fld (pv 0) rfl) (pe_fld (pv 1) rfl)) (pa_cons (pe_op op_mulW (pe_fld (pv 0) rfl) (pe_fld (pv 1) rfl)) pa_nil)))))), ?_⟩
    walk_at "rdf"
    refine r_iteF (decide_eq_false (num_ne y0)) ?_
    walk_at "rdf"
    refine r_I (cm bx.1 (bd_den by')) ?_
    walk_at "rdf"
    refine r_I (cm (bd_den bx) by'.1) ?_
    walk_at "rdf"
    refine mk_num (Int.mul_ne_zero (den_ne x) (num_ne y0)) (natAbs_mul_lt (bd_den bx) by'.1 (by decide)) fun r H' s n h => ?_
    rw [div_eq] at h
    exact k r H' s n h
end
end My

namespace My
open PySem L2
/-! ### the ways by their names -/
def wname : Way → Str
  | .up => "up" | .down => "down" | .high => "high" | .low => "low" | .hup => "half up" | .hdown => "half down" | .heven => "half even" | .hodd => "half odd"
theorem no_over (q : Rat) : (nf q).lookup ("over" : Str) = none := nf_no _ (by decide +kernel) (by decide +kernel)
end My

namespace My
open PySem L2
section
variable {σ : L2.St} {H : Hp} {Q : VK} {v x y : V} {te ta to ti : TE} {tr : TA} {K : PySem.W.Frag} {nx : L2.St → Hp → Prop} {rt : VK} {bk ct : L2.St → Hp → Prop}
theorem r_par {i j : Nat} (q : tr σ H fun vs H1 => ∃ v w, vs = [v, w] ∧ nx ((σ.set i (some v)).set j (some w)) H1) : tPar i j tr ⟨nx, rt, bk, ct⟩ σ H := q
theorem r_two {P : V → V → Prop} (q : P x y) : ∃ v w, [x, y] = [v, w] ∧ P v w := ⟨x, y, rfl, q⟩
theorem r_m1 {r : V → List V → Hp → VK → Prop} (q : to σ H fun x H1 => (∃ a, x = .str a) ∧ te σ H1 fun y H2 => r x [y] H2 Q) : tM1 r to te σ H Q := q
theorem r_isStr {a : Str} {P : Prop} (q : P) : (∃ b, V.str a = .str b) ∧ P := ⟨⟨a, rfl⟩, q⟩
theorem r_inT {t : Addr} {xs : List V} {b : Bool} (h : H t = some (.tup xs)) (f : flatV x = true) (fs : xs.all flatV = true) (e : inV x xs = b) (q : Q (.bl b) H) : rIn K false x (.ref t) H Q := ⟨t, xs, rfl, .inr (SqT.of h), f, fs, by
  subst e
  exact q⟩
theorem r_notInT {t : Addr} {xs : List V} {b : Bool} (h : H t = some (.tup xs)) (f : flatV x = true) (fs : xs.all flatV = true) (e : inV x xs = b) (q : Q (.bl (!b)) H) : rIn K true x (.ref t) H Q := ⟨t, xs, rfl, .inr (SqT.of h), f, fs, by
  subst e
  exact q⟩
theorem r_isN {P : V → Hp → Prop} {b : Bool} (e : decide (x = V.non) = b) (q : P (.bl b) H) : V.non = V.non ∧ P (.bl (decide (x = V.non))) H := ⟨rfl, by rw [e]; exact q⟩
theorem r_lcT {tl : TE} {g : TG} {tt : TT} {vs : List Nat} (q : tl σ H fun x H1 => ∃ a, x = .ref a ∧ (∃ xs, SqT K H1 a xs) ∧ ∀ D, H1 D = none → ∃ W : Nat → Nat → Hp → Prop, (∃ m, W 0 m (upd H1 D (.lst []))) ∧ ∀ i m H, W i m H →
    ((Itt K a).stop i H ∧ Q (.ref D) H) ∨ ((Itt K a).go i H ∧ ∃ Nx : Hp → Prop, (∀ H', Nx H' → ∃ m', m' < m ∧ W (i + 1) m' H') ∧ ∀ x H', (Itt K a).yld i H x H' → g x (wipe σ vs) H' fun σ2 H2 => wipe σ2 vs = wipe σ vs ∧ tt σ2 H2 fun b H3 =>
      if b = true then te σ2 H3 fun y H4 => ∃ acc, H4 D = some (.lst acc) ∧ acc.length < sizeLine ∧ Nx (upd H4 D (.lst (acc ++ [y]))) else Nx H3)) : tLc (iTup K tl) g tt te vs σ H Q := q
theorem r_rng2 {g : TG} {tb : TS} {D : Ends} (q : tr σ H fun vs H1 => ∃ i j : Int, vs = [.int i, .int j] ∧ (-(2 ^ 62) ≤ i ∧ i < 2 ^ 62 ∧ -(2 ^ 62) ≤ j ∧ j < 2 ^ 62) ∧ ∃ W : Nat → Nat → L2.St → Hp → Prop, (∃ m, W 0 m σ H1) ∧ ∀ k m σ H, W k m σ H →
    ((Itr i (j - i).toNat).stop k H ∧ D.nx σ H) ∨ ((Itr i (j - i).toNat).go k H ∧ ∃ N : L2.St → Hp → Prop, (∀ σ' H', N σ' H' → ∃ m', m' < m ∧ W (k + 1) m' σ' H') ∧ ∀ x H', (Itr i (j - i).toNat).yld k H x H' → g x σ H' fun σ2 H2 => tb { D with nx := N, ct := N, bk := D.nx } σ2 H2)) : tFor (iRng2 tr) g tb D σ H := q
theorem r_gTup {a : Addr} {xs : List V} {n : Nat} {t : TGs} {QS : L2.St → Hp → Prop} (h : H a = some (.tup xs)) (l : xs.length = n) (q : t xs σ H QS) : gTup K n t (.ref a) σ H QS := ⟨a, xs, rfl, SqT.of h, l, q⟩
theorem r_gCons {t : TG} {u : TGs} {xs : List V} {QS : L2.St → Hp → Prop} (q : t x σ H fun σ' H' => u xs σ' H' QS) : gCons t u (x :: xs) σ H QS := ⟨x, xs, rfl, q⟩
theorem r_gNil {QS : L2.St → Hp → Prop} (q : QS σ H) : gNil [] σ H QS := ⟨rfl, q⟩
theorem r_aug {i : Nat} {ti : TIp} (q : ∃ x, σ[i]? = some (some x) ∧ te σ H fun y H1 => ti x y H1 fun z H2 => nx (σ.set i (some z)) H2) : tAug i te ti ⟨nx, rt, bk, ct⟩ σ H := q
theorem r_ip {f : Int → Int → Int} {i j : Int} (q : Q (.int (f i j)) H) : ipI f (.int i) (.int j) H Q := ⟨i, j, rfl, rfl, q⟩
theorem r_bits (q : to σ H fun x H1 => ∃ i, x = .int i ∧ Q (.int (Builtin.Int.intBits i : Nat)) H1) : tBits to σ H Q := q
theorem r_dget2 {td ty tx : TE} (q : td σ H fun x H1 => ∃ a, x = .ref a ∧ IsD H1 a ∧ ty σ H1 fun y H2 => tx σ H2 fun z H3 => ∃ o, DGet H3 a y o ∧ Q (o.getD z) H3) : tDGet2 td ty tx σ H Q := q
theorem r_rng1 {g : TG} {tb : TS} {D : Ends} (q : tr σ H fun vs H1 => ∃ j : Int, vs = [.int j] ∧ -(2 ^ 62) ≤ j ∧ j < 2 ^ 62 ∧ ∃ W : Nat → Nat → L2.St → Hp → Prop, (∃ m, W 0 m σ H1) ∧ ∀ k m σ H, W k m σ H →
    ((Itr 0 j.toNat).stop k H ∧ D.nx σ H) ∨ ((Itr 0 j.toNat).go k H ∧ ∃ N : L2.St → Hp → Prop, (∀ σ' H', N σ' H' → ∃ m', m' < m ∧ W (k + 1) m' σ' H') ∧ ∀ x H', (Itr 0 j.toNat).yld k H x H' → g x σ H' fun σ2 H2 => tb { D with nx := N, ct := N, bk := D.nx } σ2 H2)) : tFor (iRng1 tr) g tb D σ H := q
end
end My

local macro_rules | `(tactic| walk_at "rd2") => `(tactic| first
  | with_reducible refine My.r_par ?_
  | with_reducible refine My.r_two ?_
  | with_reducible refine My.r_m1 ?_
  | with_reducible refine My.r_isStr ?_
  | with_reducible refine My.r_gCons ?_
  | with_reducible refine My.r_gNil ?_
  | ((with_reducible refine My.r_aug ?_); refine ⟨_, rfl, ?_⟩)
  | with_reducible refine My.r_ip ?_
  | with_reducible refine My.r_bits ?_)
local macro_rules | `(tactic| walk_at "rdg") => `(tactic| (repeat (first | walk_at "rd1" | walk_at "rd2")))

namespace My
open PySem L2
section
variable {σ : L2.St} {H : Hp} {Q : VK} {v x y : V} {te ta to ti td ty tk tv : TE} {K : PySem.W.Frag}
theorem r_disp {trs : List (TE × TE)} (q : ∀ p, H p = none → tPairs trs σ (upd H p (.dK [])) fun ps H2 => H2 p = some (.dK []) ∧ ∃ kvs : List (Key × V), ps = kvs.map (fun kv => (kV kv.1, kv.2)) ∧ kvs.length ≤ 15 ∧ Q (.ref p) (upd H2 p (.dK (mergeK [] kvs)))) : tDisp trs σ H Q := q
theorem r_pair {r : List (TE × TE)} {QP : List (V × V) → Hp → Prop} (q : tk σ H fun x H1 => tv σ H1 fun y H2 => tPairs r σ H2 fun ps H3 => QP ((x, y) :: ps) H3) : tPairs ((tk, tv) :: r) σ H QP := q
theorem r_pair0 {QP : List (V × V) → Hp → Prop} (q : QP [] H) : tPairs [] σ H QP := q
theorem r_dget (q : td σ H fun x H1 => ty σ H1 fun y H2 => ∃ a v, x = .ref a ∧ DGet H2 a y (some v) ∧ Q v H2) : tDGet td ty σ H Q := q
theorem r_din (q : ty σ H fun y H1 => td σ H1 fun x H2 => ∃ a o, x = .ref a ∧ DGet H2 a y o ∧ Q (.bl o.isSome) H2) : tDIn ty td σ H Q := q
theorem Same.dict {H : Hp} {p : Addr} {o1 o2 : HO} (h : H p = none) : Same H (upd (upd H p o1) p o2) := fun b o e => by
  rw [upd_ne (ne_of_none e h), upd_ne (ne_of_none e h)]
  exact e
end
end My

local macro_rules | `(tactic| walk_at "rd3") => `(tactic| first
  | with_reducible refine My.r_pair ?_
  | with_reducible refine My.r_pair0 ?_
  | with_reducible refine My.r_dget ?_
  | with_reducible refine My.r_din ?_)
local macro_rules | `(tactic| walk_at "rdh") => `(tactic| (repeat (first | walk_at "rd1" | walk_at "rd2" | walk_at "rd3")))

namespace My
open PySem L2
section
variable {σ : L2.St} {H : Hp} {Q : VK} {v x y : V} {te ta to ti : TE} {tr : TA} {K : PySem.W.Frag} {nx : L2.St → Hp → Prop} {rt : VK} {bk ct : L2.St → Hp → Prop}
theorem r_lcL {tl : TE} {g : TG} {tt : TT} {vs : List Nat} (q : tl σ H fun x H1 => ∃ a, x = .ref a ∧ (∃ xs, SqL K H1 a xs) ∧ ∀ D, H1 D = none → ∃ W : Nat → Nat → Hp → Prop, (∃ m, W 0 m (upd H1 D (.lst []))) ∧ ∀ i m H, W i m H →
    ((Itl K a).stop i H ∧ Q (.ref D) H) ∨ ((Itl K a).go i H ∧ ∃ Nx : Hp → Prop, (∀ H', Nx H' → ∃ m', m' < m ∧ W (i + 1) m' H') ∧ ∀ x H', (Itl K a).yld i H x H' → g x (wipe σ vs) H' fun σ2 H2 => wipe σ2 vs = wipe σ vs ∧ tt σ2 H2 fun b H3 =>
      if b = true then te σ2 H3 fun y H4 => ∃ acc, H4 D = some (.lst acc) ∧ acc.length < sizeLine ∧ Nx (upd H4 D (.lst (acc ++ [y]))) else Nx H3)) : tLc (iList K tl) g tt te vs σ H Q := q
theorem r_forL {tl : TE} {g : TG} {tb : TS} {D : Ends} (q : tl σ H fun x H1 => ∃ a, x = .ref a ∧ (∃ xs, SqL K H1 a xs) ∧ ∃ W : Nat → Nat → L2.St → Hp → Prop, (∃ m, W 0 m σ H1) ∧ ∀ i m σ H, W i m σ H →
    ((Itl K a).stop i H ∧ D.nx σ H) ∨ ((Itl K a).go i H ∧ ∃ N : L2.St → Hp → Prop, (∀ σ' H', N σ' H' → ∃ m', m' < m ∧ W (i + 1) m' σ' H') ∧ ∀ x H', (Itl K a).yld i H x H' → g x σ H' fun σ2 H2 => tb { D with nx := N, ct := N, bk := D.nx } σ2 H2)) : tFor (iList K tl) g tb D σ H := q
theorem r_cat {l b : Addr} {xs zs : List V} (h1 : H l = some (.lst xs)) (h2 : H b = some (.lst zs)) (n : xs.length + zs.length ≤ 100000) (q : ∀ p, H p = none → Q (.ref p) (upd H p (.lst (xs ++ zs)))) : rCat (.ref l) (.ref b) H Q := ⟨l, b, xs, zs, rfl, rfl, h1, h2, Nat.le_trans n (by decide), q⟩
theorem r_iteR {A B : Prop} {k : Bool} (b : B) (h : k = true → B → A) : if k = true then A else B := by
  cases k with
  | true => exact h rfl b
  | false => exact b
theorem r_inAny {t : Addr} {xs : List V} {b : Bool} {n : Bool} (h : H t = some (.tup xs)) (f : flatV x = true) (fs : xs.all flatV = true) (e : inV x xs = b) (q : Q (.bl (if n then !b else b)) H) : rIn K n x (.ref t) H Q := ⟨t, xs, rfl, .inr (SqT.of h), f, fs, by
  subst e
  cases n <;> exact q⟩
end
end My
namespace My
open PySem L2
theorem r_cut {t u : TS} {σ : L2.St} {H : Hp} {nx : L2.St → Hp → Prop} {rt : VK} {bk ct : L2.St → Hp → Prop} (Mid : L2.St → Hp → Prop) (h1 : t ⟨Mid, rt, bk, ct⟩ σ H) (h2 : ∀ σ' H', Mid σ' H' → u ⟨nx, rt, bk, ct⟩ σ' H') : C8.tCut t u ⟨nx, rt, bk, ct⟩ σ H := ⟨Mid, h1, h2⟩
end My

namespace My
open PySem L2
section
variable {P : Program} {w : World} {K : PySem.W.Frag} {mg : Str → Option Value} {base : Heap}
/-! ### the deck -/
/-- a deck at d, its cells at c -/
def DeckAt (H : Hp) (d c : Addr) : Prop := ∃ (s n : Int) (xs : List Int), H d = some (.lst [.ref c, .int s, .int n]) ∧ H c = some (.lst (xs.map V.int)) ∧ xs.length ≤ 63 ∧ d ≠ c
theorem DeckAt.same {H H' : Hp} {d c : Addr} (s : Same H H') (h : DeckAt H d c) : DeckAt H' d c := let ⟨a, n, xs, h1, h2, h3, h4⟩ := h; ⟨a, n, xs, s _ _ h1, s _ _ h2, h3, h4⟩
/-- what is no list stays -/
theorem Off.keep {H H' : Hp} {d c b : Addr} {o : HO} (s : Off d c H H') (hd : DeckAt H d c) (h : H b = some o) (hn : ∀ xs, o ≠ .lst xs) : H' b = some o := by
  obtain ⟨_, _, _, h1, h2, _, _⟩ := hd
  exact s b o (ne_of h h1 (hn _)) (ne_of h h2 (hn _)) h
def spDeck (K : PySem.W.Frag) : Sp := fun vs H Q _ => ∃ (a : Addr) (ns : List Int), vs = [.ref a] ∧ SqL K H a (ns.map V.int) ∧ ns.length ≤ 63 ∧ ∀ (d c : Addr) (H' : Hp), Same H H' → DeckAt H' d c → Q (.ref d) H'
theorem ok_l_deck (T : Txt w K mg) : FnOk P w K mg base CX0 1 T.f_l_deck T.fd_l_deck ["_law_script"] (spDeck K) := by
  refine T.F_l_deck.ok sc_l_deck (fun vs H Q E h => ?_) (fun cdv A outer s H vs Q E hr h => ?_)
  · obtain ⟨a, ns, rfl, _⟩ := h
    rfl
  · obtain ⟨a, ns, rfl, hS, hl, k⟩ := h
    refine ⟨_, (pss_cons (ps_set (i := 1) sc_l_deck.nd rfl (Or.inl rfl) (pe_callTy call_list_of (by rfl) T.n_list (by decide +kernel) (pa_cons (pe_slice sl_list (pv 0) po_none (po_some pe_int)) pa_nil)))
 (pss_cons (ps_set (i := 2) sc_l_deck.nd rfl (Or.inl rfl) pe_int)
 (pss_cons (ps_for PassesOwn.never rfl (pi_list (pv 1)) (pg_name (i := 3) sc_l_deck.nd rfl (Or.inl rfl))
  (pss_one (ps_set (i := 2) sc_l_deck.nd rfl (Or.inl rfl) (pe_op op_mod (pe_op op_add (pe_op op_add (pe_op op_mul (pv 2) pe_int) (pe_op op_mod (pv 3) pe_int)) pe_int) pe_int))))
 (pss_one (ps_ret (pe_lst (pa_cons (pe_revL (pv 1)) (pa_cons (pv 2) (pa_cons pe_int pa_nil))))))))), ?_⟩
    walk_at "rd"
    refine ⟨a, _, rfl, hS, fun p hp => ?_⟩
    obtain ⟨ms, em, lm⟩ := cut_ints ns 63
    rw [em]
    walk_at "rd"
    refine ⟨p, _, rfl, .inl (SqL.of upd_same), fun l hl' => ?_⟩
    have s1 : Same H (upd H p (.lst (ms.map V.int))) := Same.new hp
    have s2 : Same H (upd (upd H p (.lst (ms.map V.int))) l (.lst (ms.map V.int))) := s1.trans (Same.new hl')
    walk_at "rd"
    generalize hH2 : upd (upd H p (.lst (ms.map V.int))) l (.lst (ms.map V.int)) = H2 at *
    have hL : H2 l = some (.lst (ms.map V.int)) := by rw [← hH2]; exact upd_same
    refine ⟨_, rfl, l, rfl, ⟨_, SqL.of hL⟩, for_list (K := K) (a := l) (xs := ms.map V.int) (fun i σ H' => ∃ (z : Int) (v : Option V), σ = [some (.ref a), some (.ref l), some (.int z), v] ∧ H' = H2)
      ⟨23, none, rfl, rfl⟩ (fun i σ H' _ ⟨_, _, _, e⟩ => e ▸ SqL.of hL) ?_ ?_⟩
    · rintro i y σ H' hi ⟨z, v, rfl, rfl⟩
      obtain ⟨u, rfl⟩ : ∃ u, y = V.int u := by
        rw [List.getElem?_map] at hi
        cases e : ms[i]? with
        | none => rw [e] at hi; cases hi
        | some u => rw [e] at hi; exact ⟨u, (Option.some.inj hi).symm⟩
      walk_at "rd"
      exact ⟨_, _, rfl, rfl⟩
    · rintro σ H' ⟨z, v, rfl, rfl⟩
      walk_at "rd"
      refine ⟨l, _, rfl, SqL.of hL, fun c hc => ?_⟩
      walk_at "rd"
      refine r_new (by show 3 ≤ 1000; decide) fun d hd => ?_
      have hc2 : c ≠ d := ne_of_none upd_same hd
      refine k d c _ ((s2.trans (Same.new hc)).trans (Same.new hd)) ⟨z, 0, ms.reverse, upd_same, ?_, by rw [List.length_reverse]; omega, hc2.symm⟩
      rw [upd_ne hc2, upd_same, List.map_reverse]
/-! ### a draw -/
def spDraw : Sp := fun vs H Q _ => ∃ (d c : Addr) (w : Int), vs = [.ref d, .int w] ∧ DeckAt H d c ∧ 0 < w ∧ w.natAbs < 2 ^ 9000 ∧ ∀ (r : Int) (H' : Hp), Off d c H H' → DeckAt H' d c → 0 ≤ r → r < w → Q (.int r) H'
theorem lin31 {x : Int} : (0 : Int) ≤ x % 2147483647 ∧ x % 2147483647 < 2147483647 := ⟨Int.emod_nonneg _ (by decide), Int.emod_lt_of_pos _ (by decide)⟩
theorem ok_l_draw (T : Txt w K mg) : FnOk P w K mg base CX0 1 T.f_l_draw T.fd_l_draw ["_law_deck_here", "_law_ways"] spDraw := by
  refine T.F_l_draw.ok sc_l_draw (fun vs H Q E h => ?_) (fun cdv A outer s H vs Q E hr h => ?_)
  · obtain ⟨d, c, v, rfl, _⟩ := h
    rfl
  · obtain ⟨d, c, v, rfl, ⟨z, n, xs, hd, hc, hl, ne⟩, v0, vb, k⟩ := h
    refine ⟨_, (pss_cons (ps_asg (pe_op op_add (pe_ix ix_list (pv 0) pe_int (fun _ _ => rfl)) pe_int) (pg_sub (pv 0) pe_int set_list))
 (pss_cons (ps_set (i := 2) sc_l_draw.nd rfl (Or.inl rfl) (pe_ix ix_list (pv 0) pe_int (fun _ _ => rfl)))
 (pss_cons (ps_if (pt_cmpR (op_neD hr.units) (pe_ix ix_list (pv 0) pe_int (fun _ _ => rfl)) (pe_lst pa_nil) (nomark _))
  (pss_cons (ps_set (i := 2) sc_l_draw.nd rfl (Or.inl rfl) (pe_bm0 PySem.F.plainAttrs_list PySem.F.slot_list_pop PySem.F.type_list_pop mt_pop (pe_ix ix_list (pv 0) pe_int (fun _ _ => rfl))))
 (pss_one (ps_if (pt_cmpR op_ge (pv 2) (pe_op op_pow pe_int pe_int) (nomark _))
  (pss_cons (ps_expr (pe_bm PySem.F.plainAttrs_list PySem.F.slot_list_append PySem.F.type_list_append mt_append (pe_ix ix_list (pv 0) pe_int (fun _ _ => rfl)) (pa_cons (pe_op op_fdivW (pv 2) (pv 1)) pa_nil)))
 (pss_one (ps_ret (pe_op op_mod (pv 2) (pv 1)))))
  pss_nil)))
  pss_nil)
 (pss_cons (ps_set (i := 3) sc_l_draw.nd rfl (Or.inl rfl) (pe_op op_mod (pe_op op_mul (pe_op op_add (pe_op op_add (pe_op op_mod (pv 2) pe_int) (pe_op op_mul pe_int (pe_ix ix_list (pv 0) pe_int (fun _ _ => rfl)))) pe_int) pe_int) pe_int))
 (pss_cons (ps_set (i := 3) sc_l_draw.nd rfl (Or.inl rfl) (pe_op op_mod (pe_op op_add (pe_op op_add (pe_op op_mulW (pv 3) (pv 3)) (pe_op op_mul pe_int (pe_ix ix_list (pv 0) pe_int (fun _ _ => rfl)))) pe_int) pe_int))
 (pss_one (ps_ret (pe_op op_mod (pe_op op_fdiv (pe_op op_mod (pe_op op_mulW (pv 3) (pe_op op_add (pe_op op_fdiv (pv 3) pe_int) pe_int)) pe_int) pe_int) (pv 1))))))))), ?_⟩
    walk_at "rd"
    refine r_ixL hd (atI_nat (j := 2) rfl) ?_
    walk_at "rd"
    refine r_setL hd (j := 2) rfl ?_
    have o1 : Off d c H (upd H d (.lst [.ref c, .int z, .int (n + 1)])) := fun b o h1 h2 h => by rw [upd_ne h1]; exact h
    have hd1 : (upd H d (.lst [.ref c, .int z, .int (n + 1)])) d = some (.lst [.ref c, .int z, .int (n + 1)]) := upd_same
    have hc1 : (upd H d (.lst [.ref c, .int z, .int (n + 1)])) c = some (.lst (xs.map V.int)) := by rw [upd_ne ne.symm]; exact hc
    show (_ : TS) _ _ (upd H d (.lst [.ref c, .int z, .int (n + 1)]))
    generalize (upd H d (.lst [.ref c, .int z, .int (n + 1)])) = H1 at *
    have post : ∀ (cell : Int) (H2 : Hp), Off d c H H2 → (∃ ys : List Int, H2 c = some (.lst (ys.map V.int)) ∧ ys.length ≤ 63) → H2 d = some (.lst [.ref c, .int z, .int (n + 1)]) → ∀ r : Int, 0 ≤ r → r < v → Q (.int r) H2 := by
      intro cell H2 o2 ⟨ys, hy, ly⟩ h2 r r0 r1
      exact k r H2 o2 ⟨z, n + 1, ys, h2, hy, ly, ne⟩ r0 r1
    have pmod : ∀ x : Int, 0 ≤ x % v ∧ x % v < v := fun x => ⟨Int.emod_nonneg _ (by omega), Int.emod_lt_of_pos _ v0⟩
    walk_at "rd"
    refine r_ixL hd1 (atI_nat (j := 1) rfl) ?_
    walk_at "rd"
    refine r_ixL hd1 (atI_nat (j := 0) rfl) ?_
    walk_at "rd"
    refine r_new (by show 0 ≤ 1000; decide) fun e he => ?_
    have hc2 : upd H1 e (.lst []) c = some (.lst (xs.map V.int)) := by rw [upd_ne (ne_of_none hc1 he)]; exact hc1
    have hd2 : upd H1 e (.lst []) d = some (.lst [.ref c, .int z, .int (n + 1)]) := by rw [upd_ne (ne_of_none hd1 he)]; exact hd1
    have o2 : Off d c H (upd H1 e (.lst [])) := o1.trans (Off.of (Same.new he))
    refine r_neInts (xs := xs) (ys := []) (SqL.of hc2) (SqL.of upd_same) ?_
    generalize upd H1 e (.lst []) = H2 at *
    walk_at "rd"
    refine r_ite (fun hx => ?_) (fun hx => ?_)
    · obtain ⟨ys, y, rfl⟩ : ∃ ys y, xs = ys ++ [y] := by
        have hx' : xs ≠ [] := by simpa using hx
        exact ⟨xs.dropLast, xs.getLast hx', (List.dropLast_concat_getLast hx').symm⟩
      rw [List.map_append] at hc2
      rw [List.length_append, List.length_singleton] at hl
      walk_at "rd"
      refine r_ixL hd2 (atI_nat (j := 0) rfl) ?_
      refine ⟨ty_list hc2, r_pop hc2 ?_⟩
      have hc3 : upd H2 c (.lst (ys.map V.int)) c = some (.lst (ys.map V.int)) := upd_same
      have hd3 : upd H2 c (.lst (ys.map V.int)) d = some (.lst [.ref c, .int z, .int (n + 1)]) := by rw [upd_ne ne]; exact hd2
      have o3 : Off d c H (upd H2 c (.lst (ys.map V.int))) := o2.trans fun b o h1 h2 h => by rw [upd_ne h2]; exact h
      generalize upd H2 c (.lst (ys.map V.int)) = H3 at *
      walk_at "rd"
      refine r_ite (fun hy => ?_) (fun hy => ?_)
      · walk_at "rd"
        refine r_ixL hd3 (atI_nat (j := 0) rfl) ?_
        refine ⟨ty_list hc3, ?_⟩
        walk_at "rd"
        refine r_I (wide_div v0 vb (by decide) (Nat.le_refl _)) ?_
        walk_at "rd"
        refine r_append hc3 (by rw [List.length_map]; omega) ?_
        walk_at "rd"
        refine r_I v0 ?_
        refine post y _ (o3.trans fun b o h1 h2 h => by rw [upd_ne h2]; exact h) ⟨ys ++ [y / v], ?_, by rw [List.length_append, List.length_singleton]; omega⟩ (by rw [upd_ne ne]; exact hd3) _ (pmod y).1 (pmod y).2
        rw [upd_same, List.map_append]; rfl
      · walk_at "rd"
        refine r_ixL hd3 (atI_nat (j := 2) rfl) ?_
        walk_at "rd"
        refine r_I (wide_mul (a := 31) (b := 31) (by have := @lin31 ((y % 2147483629 + 104729 * (n + 1) + 41) * 48271); omega) (by have := @lin31 ((y % 2147483629 + 104729 * (n + 1) + 41) * 48271); omega) (by decide) (by decide) (by decide)) ?_
        walk_at "rd"
        refine r_ixL hd3 (atI_nat (j := 2) rfl) ?_
        walk_at "rd"
        generalize (y % 2147483629 + 104729 * (n + 1) + 41) * 48271 % 2147483647 * ((y % 2147483629 + 104729 * (n + 1) + 41) * 48271 % 2147483647) + 69621 * (n + 1) + 3 = m
        have hm : (0 : Int) ≤ m % 2147483587 ∧ m % 2147483587 < 2147483587 := ⟨Int.emod_nonneg _ (by decide), Int.emod_lt_of_pos _ (by decide)⟩
        refine r_I (wide_mul (a := 31) (b := 31) (by omega) (by omega) (by decide) (by decide) (by decide)) ?_
        walk_at "rd"
        refine r_I v0 ?_
        exact post y _ o3 ⟨ys, hc3, by omega⟩ hd3 _ (pmod _).1 (pmod _).2
    · walk_at "rd"
      refine r_ixL hd2 (atI_nat (j := 2) rfl) ?_
      walk_at "rd"
      refine r_I (wide_mul (a := 31) (b := 31) (by have := @lin31 ((z % 2147483629 + 104729 * (n + 1) + 41) * 48271); omega) (by have := @lin31 ((z % 2147483629 + 104729 * (n + 1) + 41) * 48271); omega) (by decide) (by decide) (by decide)) ?_
      walk_at "rd"
      refine r_ixL hd2 (atI_nat (j := 2) rfl) ?_
      walk_at "rd"
      generalize (z % 2147483629 + 104729 * (n + 1) + 41) * 48271 % 2147483647 * ((z % 2147483629 + 104729 * (n + 1) + 41) * 48271 % 2147483647) + 69621 * (n + 1) + 3 = m
      have hm : (0 : Int) ≤ m % 2147483587 ∧ m % 2147483587 < 2147483587 := ⟨Int.emod_nonneg _ (by decide), Int.emod_lt_of_pos _ (by decide)⟩
      refine r_I (wide_mul (a := 31) (b := 31) (by omega) (by omega) (by decide) (by decide) (by decide)) ?_
      walk_at "rd"
      refine r_I v0 ?_
      exact post 0 _ o2 ⟨xs, hc2, hl⟩ hd2 _ (pmod _).1 (pmod _).2
end
end My

namespace My
open PySem L2
theorem atI_mem {α : Type} {xs : List α} {r : Int} (h0 : 0 ≤ r) (h1 : r < (xs.length : Int)) : ∃ v, atI xs r = some v ∧ v ∈ xs := by
  obtain ⟨n, rfl⟩ := Int.eq_ofNat_of_zero_le h0
  have hn : n < xs.length := by omega
  exact ⟨xs[n], atI_nat (List.getElem?_eq_getElem hn), List.getElem_mem hn⟩
theorem fresh_ne {H : Hp} {d c p : Addr} (h : DeckAt H d c) (hp : H p = none) : p ≠ d ∧ p ≠ c := by
  obtain ⟨_, _, _, h1, h2, _, _⟩ := h
  exact ⟨(ne_of_none h1 hp).symm, (ne_of_none h2 hp).symm⟩
theorem lt9000 {v : Int} (h : v.natAbs < 2 ^ 200) : v.natAbs < 2 ^ 9000 := Nat.lt_of_lt_of_le h (Nat.pow_le_pow_right (by decide) (by decide))
/-- a draw, as it is read -/
theorem rd_draw {H : Hp} {d c : Addr} {v : Int} {Q : VK} {E : XK} (dk : DeckAt H d c) (h0 : 0 < v) (h1 : v.natAbs < 2 ^ 200) (q : ∀ (r : Int) (H' : Hp), Off d c H H' → DeckAt H' d c → 0 ≤ r → r < v → Q (.int r) H') : spDraw ([V.ref d, V.int v] ++ []) H Q E :=
  ⟨d, c, v, rfl, dk, h0, lt9000 h1, q⟩
end My

namespace My
open PySem L2
section
variable {P : Program} {w : World} {K : PySem.W.Frag} {mg : Str → Option Value} {base : Heap}
/-! ### a grain -/
def GrainOk (H : Hp) (v : V) : Prop := ∃ (p : Addr) (a b : Int), v = .ref p ∧ H p = some (.tup [.int a, .int b]) ∧ (0 < a ∧ a < 2 ^ 60) ∧ (0 < b ∧ b < 2 ^ 60)
/-- the deck stands, what stood stays but for it, the grains made are grains -/
structure GSt (H0 : Hp) (d c : Addr) (H : Hp) (vs : List V) : Prop where
  off : Off d c H0 H
  dk : DeckAt H d c
  all : ∀ v ∈ vs, GrainOk H v
theorem GSt.tup {H0 H : Hp} {d c p : Addr} {vs : List V} {a b : Int} (s : GSt H0 d c H vs) (hp : H p = none) (ha : 0 < a ∧ a < 2 ^ 60) (hb : 0 < b ∧ b < 2 ^ 60) : GSt H0 d c (upd H p (.tup [.int a, .int b])) (.ref p :: vs) := by
  refine ⟨s.off.trans (Off.of (Same.new hp)), s.dk.same (Same.new hp), fun v hv => ?_⟩
  rcases List.mem_cons.mp hv with rfl | hv
  · exact ⟨p, a, b, rfl, upd_same, ha, hb⟩
  · obtain ⟨q, x, y, e, h, h1, h2⟩ := s.all v hv
    exact ⟨q, x, y, e, Same.new hp _ _ h, h1, h2⟩
theorem GSt.lst {H0 H : Hp} {d c p : Addr} {vs xs : List V} (s : GSt H0 d c H vs) (hp : H p = none) : GSt H0 d c (upd H p (.lst xs)) vs := by
  refine ⟨s.off.trans (Off.of (Same.new hp)), s.dk.same (Same.new hp), fun v hv => ?_⟩
  obtain ⟨q, x, y, e, h, h1, h2⟩ := s.all v hv
  exact ⟨q, x, y, e, Same.new hp _ _ h, h1, h2⟩
theorem GSt.draw {H0 H H' : Hp} {d c : Addr} {vs : List V} (s : GSt H0 d c H vs) (o : Off d c H H') (dk : DeckAt H' d c) : GSt H0 d c H' vs := by
  refine ⟨s.off.trans o, dk, fun v hv => ?_⟩
  obtain ⟨q, x, y, e, h, h1, h2⟩ := s.all v hv
  exact ⟨q, x, y, e, o.keep s.dk h (fun _ z => by cases z), h1, h2⟩
def spGrain : Sp := fun vs H Q _ => ∃ (d c : Addr), vs = [.ref d] ∧ DeckAt H d c ∧
  ∀ (p : Addr) (a b : Int) (H' : Hp), Off d c H H' → DeckAt H' d c → H' p = some (.tup [.int a, .int b]) → (0 < a ∧ a < 2 ^ 60) → (0 < b ∧ b < 2 ^ 60) → Q (.ref p) H'
theorem ok_l_grain (T : Txt w K mg) : FnOk P w K mg base CX0 2 T.f_l_grain T.fd_l_grain ["_law_deck_here"] spGrain := by
  refine T.F_l_grain.ok sc_l_grain (fun vs H Q E h => ?_) (fun cdv A outer s H vs Q E hr h => ?_)
  · obtain ⟨d, c, rfl, _⟩ := h
    rfl
  · obtain ⟨d, c, rfl, dk, k⟩ := h
    refine ⟨_, (pss_cons (ps_set (i := 1) sc_l_grain.nd rfl (Or.inl rfl) (pe_ix ix_list (pe_lst (pa_cons pe_int (pa_cons pe_int (pa_cons (pe_op op_pow pe_int pe_int) (pa_cons (pe_op op_pow pe_int pe_int) (pa_cons (pe_op op_pow pe_int pe_int) (pa_cons (pe_op op_pow pe_int pe_int) (pa_cons (pe_op op_pow pe_int pe_int) pa_nil)))))))) (pe_call (ok_l_draw T) (hr.mono (by decide)) (by rfl) T.m_l_draw T.F_l_draw.kp T.b_l_draw .nil pass0 (pa_cons (pv 0) (pa_cons pe_int pa_nil))) (fun _ _ => rfl)))
 (pss_cons (ps_set (i := 2) sc_l_grain.nd rfl (Or.inl rfl) (pe_lst (pa_cons (pe_tup (pa_cons pe_int (pa_cons pe_int pa_nil))) (pa_cons (pe_tup (pa_cons pe_int (pa_cons (pv 1) pa_nil))) (pa_cons (pe_tup (pa_cons (pv 1) (pa_cons pe_int pa_nil))) (pa_cons (pe_tup (pa_cons pe_int (pa_cons pe_int pa_nil))) (pa_cons (pe_tup (pa_cons pe_int (pa_cons pe_int pa_nil))) (pa_cons (pe_tup (pa_cons pe_int (pa_cons pe_int pa_nil))) (pa_cons (pe_tup (pa_cons (pe_op op_add pe_int (pe_call (ok_l_draw T) (hr.mono (by decide)) (by rfl) T.m_l_draw T.F_l_draw.kp T.b_l_draw .nil pass0 (pa_cons (pv 0) (pa_cons pe_int pa_nil)))) (pa_cons (pe_op op_add pe_int (pe_call (ok_l_draw T) (hr.mono (by decide)) (by rfl) T.m_l_draw T.F_l_draw.kp T.b_l_draw .nil pass0 (pa_cons (pv 0) (pa_cons pe_int pa_nil)))) pa_nil))) pa_nil)))))))))
 (pss_cons (ps_set (i := 2) sc_l_grain.nd rfl (Or.inl rfl) (pe_op op_cat (pv 2) (pe_lst (pa_cons (pe_tup (pa_cons pe_int (pa_cons pe_int pa_nil))) (pa_cons (pe_tup (pa_cons (pe_op op_mul (pv 1) pe_int) (pa_cons pe_int pa_nil))) (pa_cons (pe_tup (pa_cons (pe_op op_add pe_int (pe_call (ok_l_draw T) (hr.mono (by decide)) (by rfl) T.m_l_draw T.F_l_draw.kp T.b_l_draw .nil pass0 (pa_cons (pv 0) (pa_cons (pe_op op_pow pe_int pe_int) pa_nil)))) (pa_cons (pe_op op_add pe_int (pe_call (ok_l_draw T) (hr.mono (by decide)) (by rfl) T.m_l_draw T.F_l_draw.kp T.b_l_draw .nil pass0 (pa_cons (pv 0) (pa_cons (pe_op op_pow pe_int pe_int) pa_nil)))) pa_nil))) pa_nil))))))
 (pss_one (ps_ret (pe_ix ix_list (pv 2) (pe_call (ok_l_draw T) (hr.mono (by decide)) (by rfl) T.m_l_draw T.F_l_draw.kp T.b_l_draw .nil pass0 (pa_cons (pv 0) (pa_cons pe_int pa_nil))) (fun _ _ => rfl))))))), ?_⟩
    walk_at "rd"
    refine r_new (by show 7 ≤ 1000; decide) fun l hl => ?_
    obtain ⟨l1, l2⟩ := fresh_ne dk hl
    have S0 : GSt H d c H [] := ⟨Off.refl _ _ _, dk, fun v hv => by cases hv⟩
    have S1 := S0.lst (xs := [.int 1, .int 10, .int (10 ^ (2 : Int).toNat), .int (10 ^ (3 : Int).toNat), .int (10 ^ (4 : Int).toNat), .int (10 ^ (6 : Int).toNat), .int (10 ^ (8 : Int).toNat)]) hl
    walk_at "rd"
    refine rd_draw S1.dk (by decide) (by decide) fun r H2 o2 dk2 r0 r1 => ?_
    have S2 := S1.draw o2 dk2
    have hL := o2 l _ l1 l2 upd_same
    obtain ⟨t, at_, tm⟩ := atI_mem (xs := [V.int 1, .int 10, .int (10 ^ (2 : Int).toNat), .int (10 ^ (3 : Int).toNat), .int (10 ^ (4 : Int).toNat), .int (10 ^ (6 : Int).toNat), .int (10 ^ (8 : Int).toNat)]) r0 r1
    refine r_ixL hL at_ ?_
    obtain ⟨t, rfl, t0⟩ : ∃ i : Int, t = .int i ∧ (0 < i ∧ i < 2 ^ 40) := by
      simp only [List.mem_cons, List.not_mem_nil, or_false] at tm
      rcases tm with rfl | rfl | rfl | rfl | rfl | rfl | rfl <;> exact ⟨_, rfl, by decide, by decide⟩
    have tb : 0 < t ∧ t < 2 ^ 60 := ⟨t0.1, by omega⟩
    walk_at "rd"
    refine r_new (by show 2 ≤ 1000; decide) fun p1 q1 => ?_
    have S3 := S2.tup (a := 1) (b := 1) q1 (by decide) (by decide)
    walk_at "rd"
    refine r_new (by show 2 ≤ 1000; decide) fun p2 q2 => ?_
    have S4 := S3.tup (a := 1) (b := t) q2 (by decide) tb
    walk_at "rd"
    refine r_new (by show 2 ≤ 1000; decide) fun p3 q3 => ?_
    have S5 := S4.tup (a := t) (b := 1) q3 tb (by decide)
    walk_at "rd"
    refine r_new (by show 2 ≤ 1000; decide) fun p4 q4 => ?_
    have S6 := S5.tup (a := 1) (b := 8) q4 (by decide) (by decide)
    walk_at "rd"
    refine r_new (by show 2 ≤ 1000; decide) fun p5 q5 => ?_
    have S7 := S6.tup (a := 1) (b := 3) q5 (by decide) (by decide)
    walk_at "rd"
    refine r_new (by show 2 ≤ 1000; decide) fun p6 q6 => ?_
    have S8 := S7.tup (a := 7) (b := 1) q6 (by decide) (by decide)
    walk_at "rd"
    refine rd_draw S8.dk (by decide) (by decide) fun u H3 o3 dk3 u0 u1 => ?_
    have S9 := S8.draw o3 dk3
    walk_at "rd"
    refine rd_draw S9.dk (by decide) (by decide) fun v H4 o4 dk4 v0 v1 => ?_
    have S10 := S9.draw o4 dk4
    walk_at "rd"
    refine r_new (by show 2 ≤ 1000; decide) fun p7 q7 => ?_
    have S11 := S10.tup (a := 1 + u) (b := 1 + v) q7 (by omega) (by omega)
    walk_at "rd"
    refine r_new (by show 7 ≤ 1000; decide) fun m hm => ?_
    obtain ⟨m1, m2⟩ := fresh_ne S11.dk hm
    have S12 := S11.lst (xs := [.ref p1, .ref p2, .ref p3, .ref p4, .ref p5, .ref p6, .ref p7]) hm
    have M12 : upd (upd H4 p7 (.tup [.int (1 + u), .int (1 + v)])) m (.lst [.ref p1, .ref p2, .ref p3, .ref p4, .ref p5, .ref p6, .ref p7]) m = some (.lst [.ref p1, .ref p2, .ref p3, .ref p4, .ref p5, .ref p6, .ref p7]) := upd_same
    walk_at "rd"
    refine r_new (by show 2 ≤ 1000; decide) fun p8 q8 => ?_
    have S13 := S12.tup (a := 1) (b := 20) q8 (by decide) (by decide)
    have M13 := Same.new (o := .tup [.int 1, .int 20]) q8 _ _ M12
    walk_at "rd"
    refine r_new (by show 2 ≤ 1000; decide) fun p9 q9 => ?_
    have S14 := S13.tup (a := t * 1000) (b := 1) q9 (by omega) (by decide)
    have M14 := Same.new (o := .tup [.int (t * 1000), .int 1]) q9 _ _ M13
    walk_at "rd"
    refine rd_draw S14.dk (by decide) (by decide) fun u' H5 o5 dk5 u0' u1' => ?_
    have S15 := S14.draw o5 dk5
    have M15 := o5 _ _ m1 m2 M14
    walk_at "rd"
    refine rd_draw S15.dk (by decide) (by decide) fun v' H6 o6 dk6 v0' v1' => ?_
    have S16 := S15.draw o6 dk6
    have M16 := o6 _ _ m1 m2 M15
    walk_at "rd"
    refine r_new (by show 2 ≤ 1000; decide) fun p10 q10 => ?_
    have S17 := S16.tup (a := 1 + u') (b := 1 + v') q10 (by have e : (10 : Int) ^ (6 : Int).toNat = 1000000 := rfl; omega) (by have e : (10 : Int) ^ (6 : Int).toNat = 1000000 := rfl; omega)
    have M17 := Same.new (o := .tup [.int (1 + u'), .int (1 + v')]) q10 _ _ M16
    walk_at "rd"
    refine r_new (by show 3 ≤ 1000; decide) fun n hn => ?_
    have S18 := S17.lst (xs := [.ref p8, .ref p9, .ref p10]) hn
    have M18 := Same.new (o := .lst [.ref p8, .ref p9, .ref p10]) hn _ _ M17
    refine ⟨m, n, _, _, rfl, rfl, M18, upd_same, by show 7 + 3 ≤ sizeLine; decide, fun f hf => ?_⟩
    obtain ⟨f1, f2⟩ := fresh_ne S18.dk hf
    have S19 := S18.lst (xs := [.ref p1, .ref p2, .ref p3, .ref p4, .ref p5, .ref p6, .ref p7] ++ [.ref p8, .ref p9, .ref p10]) hf
    walk_at "rd"
    refine rd_draw S19.dk (by decide) (by decide) fun r' H7 o7 dk7 r0' r1' => ?_
    have S20 := S19.draw o7 dk7
    have hF := o7 f _ f1 f2 upd_same
    obtain ⟨g, ag, gm⟩ := atI_mem (xs := [V.ref p1, .ref p2, .ref p3, .ref p4, .ref p5, .ref p6, .ref p7] ++ [V.ref p8, .ref p9, .ref p10]) r0' (by show r' < 10; exact r1')
    refine r_ixL hF ag ?_
    have hg : g ∈ [V.ref p10, .ref p9, .ref p8, .ref p7, .ref p6, .ref p5, .ref p4, .ref p3, .ref p2, .ref p1] := by
      simp only [List.mem_cons, List.cons_append, List.nil_append, List.not_mem_nil, or_false] at gm ⊢
      rcases gm with h | h | h | h | h | h | h | h | h | h <;> simp [h]
    obtain ⟨p, a, b, rfl, hp, ha, hb⟩ := S20.all g hg
    exact k p a b H7 S20.off S20.dk hp ha hb
end
end My

namespace My
open PySem L2
section
variable {P : Program} {w : World} {K : PySem.W.Frag} {mg : Str → Option Value} {base : Heap}
theorem int_of {v : V} {xs : List Int} (h : v ∈ xs.map V.int) : ∃ i, v = .int i ∧ i ∈ xs := by
  obtain ⟨i, hi, rfl⟩ := List.mem_map.mp h
  exact ⟨i, rfl, hi⟩
def spNear : Sp := fun vs H Q _ => ∃ (d c g : Addr) (a b : Int), vs = [.ref d, .ref g] ∧ DeckAt H d c ∧ H g = some (.tup [.int a, .int b]) ∧ (0 < a ∧ a < 2 ^ 60) ∧ (0 < b ∧ b < 2 ^ 60) ∧
  ∀ (p : Addr) (t u : Int) (H' : Hp), Off d c H H' → DeckAt H' d c → H' p = some (.tup [.int t, .int u]) → t.natAbs < 2 ^ 100 → (0 < u ∧ u < 2 ^ 71) → Q (.ref p) H'
theorem ok_l_near (T : Txt w K mg) : FnOk P w K mg base CX0 2 T.f_l_near T.fd_l_near ["_law_deck_here", "_law_grain_here"] spNear := by
  refine T.F_l_near.ok sc_l_near (fun vs H Q E h => ?_) (fun cdv A outer s H vs Q E hr h => ?_)
  · obtain ⟨d, c, g, a, b, rfl, _⟩ := h
    rfl
  · obtain ⟨d, c, g, a, b, rfl, dk, hg, ha, hb, k⟩ := h
    refine ⟨_, (pss_cons (ps_set (i := 2) sc_l_near.nd rfl (Or.inl rfl) (pe_lst (pa_cons (pe_call (ok_l_draw T) (hr.mono (by decide)) (by rfl) T.m_l_draw T.F_l_draw.kp T.b_l_draw .nil pass0 (pa_cons (pv 0) (pa_cons pe_int pa_nil))) (pa_cons (pe_op op_add pe_int (pe_call (ok_l_draw T) (hr.mono (by decide)) (by rfl) T.m_l_draw T.F_l_draw.kp T.b_l_draw .nil pass0 (pa_cons (pv 0) (pa_cons pe_int pa_nil)))) (pa_cons (pe_op op_add pe_int (pe_call (ok_l_draw T) (hr.mono (by decide)) (by rfl) T.m_l_draw T.F_l_draw.kp T.b_l_draw .nil pass0 (pa_cons (pv 0) (pa_cons pe_int pa_nil)))) (pa_cons pe_int (pa_cons (pe_call (ok_l_draw T) (hr.mono (by decide)) (by rfl) T.m_l_draw T.F_l_draw.kp T.b_l_draw .nil pass0 (pa_cons (pv 0) (pa_cons (pe_op op_pow pe_int pe_int) pa_nil))) pa_nil)))))))
 (pss_cons (ps_set (i := 3) sc_l_near.nd rfl (Or.inl rfl) (pe_op op_mulW (pe_ix ix_list (pv 2) (pe_call (ok_l_draw T) (hr.mono (by decide)) (by rfl) T.m_l_draw T.F_l_draw.kp T.b_l_draw .nil pass0 (pa_cons (pv 0) (pa_cons pe_int pa_nil))) (fun _ _ => rfl)) (pe_ix ix_list (pe_lst (pa_cons pe_int (pa_cons (pe_un un_neg pe_int) pa_nil))) (pe_call (ok_l_draw T) (hr.mono (by decide)) (by rfl) T.m_l_draw T.F_l_draw.kp T.b_l_draw .nil pass0 (pa_cons (pv 0) (pa_cons pe_int pa_nil))) (fun _ _ => rfl))))
 (pss_cons (ps_set (i := 4) sc_l_near.nd rfl (Or.inl rfl) (pe_ix ix_list (pe_lst (pa_cons pe_int (pa_cons pe_int (pa_cons pe_int (pa_cons pe_int (pa_cons pe_int (pa_cons pe_int pa_nil))))))) (pe_call (ok_l_draw T) (hr.mono (by decide)) (by rfl) T.m_l_draw T.F_l_draw.kp T.b_l_draw .nil pass0 (pa_cons (pv 0) (pa_cons pe_int pa_nil))) (fun _ _ => rfl)))
 (pss_cons (ps_set (i := 5) sc_l_near.nd rfl (Or.inl rfl) (pe_op op_fdiv (pv 4) pe_int))
 (pss_cons (ps_set (i := 6) sc_l_near.nd rfl (Or.inl rfl) (pe_ix ix_list (pe_lst (pa_cons pe_int (pa_cons (pv 5) (pa_cons (pe_callB (call_max2 rfl) (by rfl) T.n_max (by decide +kernel) (pa_cons pe_int (pa_cons (pe_op op_sub (pv 5) pe_int) pa_nil))) (pa_cons (pe_op op_add (pv 5) pe_int) (pa_cons pe_int (pa_cons (pe_op op_sub (pv 4) pe_int) (pa_cons (pe_call (ok_l_draw T) (hr.mono (by decide)) (by rfl) T.m_l_draw T.F_l_draw.kp T.b_l_draw .nil pass0 (pa_cons (pv 0) (pa_cons (pv 4) pa_nil))) pa_nil)))))))) (pe_call (ok_l_draw T) (hr.mono (by decide)) (by rfl) T.m_l_draw T.F_l_draw.kp T.b_l_draw .nil pass0 (pa_cons (pv 0) (pa_cons pe_int pa_nil))) (fun _ _ => rfl)))
 (pss_one (ps_ret (pe_tup (pa_cons (pe_op op_mulW (pe_ix ix_tup (pv 1) pe_int (fun _ _ => rfl)) (pe_op op_add (pe_op op_mulW (pv 3) (pv 4)) (pe_op op_mod (pv 6) (pv 4)))) (pa_cons (pe_op op_mulW (pe_ix ix_tup (pv 1) pe_int (fun _ _ => rfl)) (pv 4)) pa_nil)))))))))), ?_⟩
    walk_at "rdg"
    refine rd_draw dk (by decide) (by decide) fun e1 H1 o1 dk1 e10 e11 => ?_
    walk_at "rdg"
    refine rd_draw dk1 (by decide) (by decide) fun e2 H2 o2 dk2 e20 e21 => ?_
    walk_at "rdg"
    refine rd_draw dk2 (by decide) (by decide) fun e3 H3 o3 dk3 e30 e31 => ?_
    walk_at "rdg"
    refine rd_draw dk3 (by decide) (by decide) fun e4 H4 o4 dk4 e40 e41 => ?_
    have o04 := ((o1.trans o2).trans o3).trans o4
    walk_at "rdg"
    refine r_new (by show 5 ≤ 1000; decide) fun l hl => ?_
    obtain ⟨l1, l2⟩ := fresh_ne dk4 hl
    have sl := Same.new (o := .lst [.int e1, .int (9 + e2), .int (99 + e3), .int 999, .int e4]) hl
    walk_at "rdg"
    refine rd_draw (dk4.same sl) (by decide) (by decide) fun e5 H5 o5 dk5 e50 e51 => ?_
    have hL := o5 l _ l1 l2 upd_same
    obtain ⟨v, av, vm⟩ := atI_mem (xs := [V.int e1, .int (9 + e2), .int (99 + e3), .int 999, .int e4]) e50 e51
    refine r_ixL hL av ?_
    obtain ⟨i, rfl, hi⟩ : ∃ i : Int, v = .int i ∧ (0 ≤ i ∧ i < 2 ^ 20) := by
      have e9 : (10 : Int) ^ (6 : Int).toNat = 1000000 := rfl
      obtain ⟨i, rfl, hi⟩ := int_of (xs := [e1, 9 + e2, 99 + e3, 999, e4]) vm
      refine ⟨i, rfl, ?_⟩
      simp only [List.mem_cons, List.not_mem_nil, or_false] at hi
      omega
    have o05 := (o04.trans (Off.of sl)).trans o5
    walk_at "rdg"
    refine r_new (by show 2 ≤ 1000; decide) fun m hm => ?_
    obtain ⟨m1, m2⟩ := fresh_ne dk5 hm
    have sm := Same.new (o := .lst [.int 1, .int (-1)]) hm
    walk_at "rdg"
    refine rd_draw (dk5.same sm) (by decide) (by decide) fun e6 H6 o6 dk6 e60 e61 => ?_
    have hM := o6 m _ m1 m2 upd_same
    obtain ⟨v, av, vm⟩ := atI_mem (xs := [V.int 1, .int (-1)]) e60 e61
    refine r_ixL hM av ?_
    obtain ⟨sg, rfl, hs⟩ : ∃ sg : Int, v = .int sg ∧ (sg = 1 ∨ sg = -1) := by
      obtain ⟨i, rfl, hi⟩ := int_of (xs := [1, -1]) vm
      refine ⟨i, rfl, ?_⟩
      simpa using hi
    have o06 := (o05.trans (Off.of sm)).trans o6
    walk_at "rdg"
    refine r_I (wide_mul (a := 20) (b := 2) (by omega) (by omega) (by decide) (by decide) (by decide)) ?_
    walk_at "rdg"
    have cb : (i * sg).natAbs < 2 ^ 22 := natAbs_mul_lt (m := 20) (n := 2) (by omega) (by omega) (by decide)
    generalize i * sg = n at *
    refine r_new (by show 6 ≤ 1000; decide) fun l2' hl2 => ?_
    obtain ⟨q1, q2⟩ := fresh_ne dk6 hl2
    have s2 := Same.new (o := .lst [.int 1, .int 2, .int 4, .int 3, .int 10, .int 1000]) hl2
    walk_at "rdg"
    refine rd_draw (dk6.same s2) (by decide) (by decide) fun e7 H7 o7 dk7 e70 e71 => ?_
    have hL2 := o7 l2' _ q1 q2 upd_same
    obtain ⟨v, av, vm⟩ := atI_mem (xs := [V.int 1, .int 2, .int 4, .int 3, .int 10, .int 1000]) e70 e71
    refine r_ixL hL2 av ?_
    obtain ⟨p, rfl, hp⟩ : ∃ p : Int, v = .int p ∧ (0 < p ∧ p ≤ 1000) := by
      obtain ⟨i, rfl, hi⟩ := int_of (xs := [1, 2, 4, 3, 10, 1000]) vm
      refine ⟨i, rfl, ?_⟩
      simp only [List.mem_cons, List.not_mem_nil, or_false] at hi
      omega
    have o07 := (o06.trans (Off.of s2)).trans o7
    walk_at "rdg"
    refine ⟨_, _, rfl, ?_⟩
    walk_at "rdg"
    refine rd_draw dk7 hp.1 (Nat.lt_of_lt_of_le (by omega : p.natAbs < 2 ^ 10) (by decide)) fun e8 H8 o8 dk8 e80 e81 => ?_
    walk_at "rdg"
    refine r_new (by show 7 ≤ 1000; decide) fun l3 hl3 => ?_
    obtain ⟨z1, z2⟩ := fresh_ne dk8 hl3
    have s3 := Same.new (o := .lst [.int 0, .int (p / 2), .int (if p / 2 - 1 > 0 then p / 2 - 1 else 0), .int (p / 2 + 1), .int 1, .int (p - 1), .int e8]) hl3
    walk_at "rdg"
    refine rd_draw (dk8.same s3) (by decide) (by decide) fun e9 H9 o9 dk9 e90 e91 => ?_
    have hL3 := o9 l3 _ z1 z2 upd_same
    obtain ⟨v, av, vm⟩ := atI_mem (xs := [V.int 0, .int (p / 2), .int (if p / 2 - 1 > 0 then p / 2 - 1 else 0), .int (p / 2 + 1), .int 1, .int (p - 1), .int e8]) e90 e91
    refine r_ixL hL3 av ?_
    obtain ⟨r, rfl, _⟩ := int_of (xs := [0, p / 2, if p / 2 - 1 > 0 then p / 2 - 1 else 0, p / 2 + 1, 1, p - 1, e8]) vm
    have o09 := ((o07.trans o8).trans (Off.of s3)).trans o9
    have hg9 := o09.keep dk hg (fun _ z => by cases z)
    walk_at "rdg"
    refine r_ixT hg9 (atI_nat (j := 0) rfl) ?_
    walk_at "rdg"
    refine r_I (wide_mul (a := 22) (b := 10) cb (by omega) (by decide) (by decide) (by decide)) ?_
    walk_at "rdg"
    refine r_I hp.1 ?_
    have np : (n * p).natAbs < 2 ^ 32 := natAbs_mul_lt (m := 22) (n := 10) cb (by omega) (by decide)
    have rp : 0 ≤ r % p ∧ r % p < p := ⟨Int.emod_nonneg _ (by omega), Int.emod_lt_of_pos _ hp.1⟩
    have npr : (n * p + r % p).natAbs < 2 ^ 33 := by omega
    walk_at "rdg"
    refine r_I (wide_mul (a := 60) (b := 33) (by omega) npr (by decide) (by decide) (by decide)) ?_
    walk_at "rdg"
    refine r_ixT hg9 (atI_nat (j := 1) rfl) ?_
    walk_at "rdg"
    refine r_I (wide_mul (a := 60) (b := 10) (by omega) (by omega) (by decide) (by decide) (by decide)) ?_
    walk_at "rdg"
    refine r_new (by show 2 ≤ 1000; decide) fun pp hpp => ?_
    have bp : (b * p).natAbs < 2 ^ 70 := natAbs_mul_lt (m := 60) (n := 10) (by omega) (by omega) (by decide)
    refine k pp _ _ _ (o09.trans (Off.of (Same.new hpp))) (dk9.same (Same.new hpp)) upd_same (natAbs_mul_lt (m := 60) (n := 33) (by omega) npr (by decide)) ⟨Int.mul_pos hb.1 hp.1, by omega⟩
end
end My

namespace My
open PySem L2
section
variable {P : Program} {w : World} {K : PySem.W.Frag} {mg : Str → Option Value} {base : Heap}
def spSteps : Sp := fun vs H Q _ => ∃ (n g : Addr) (t b c d : Int), vs = [.ref n, .ref g] ∧ H n = some (.tup [.int t, .int b]) ∧ H g = some (.tup [.int c, .int d]) ∧ t.natAbs < 2 ^ 120 ∧ (0 < b ∧ b < 2 ^ 71) ∧ (0 < c ∧ c < 2 ^ 122) ∧ (0 < d ∧ d < 2 ^ 210) ∧
  ∀ (p : Addr) (H' : Hp), Same H H' → H' p = some (.tup [.int (t * d / (b * c)), .int (t * d - t * d / (b * c) * (b * c)), .int (b * c)]) → Q (.ref p) H'
theorem ok_l_steps (T : Txt w K mg) : FnOk P w K mg base CX0 1 T.f_l_steps T.fd_l_steps ["_law_number", "_law_grain_here"] spSteps := by
  refine T.F_l_steps.ok sc_l_steps (fun vs H Q E h => ?_) (fun cdv A outer s H vs Q E hr h => ?_)
  · obtain ⟨n, g, t, b, c, d, rfl, _⟩ := h
    rfl
  · obtain ⟨n, g, t, b, c, d, rfl, hn, hg, ht, hb, hc, hd, k⟩ := h
    refine ⟨_, (pss_cons (ps_par (i := 2) (j := 3) rfl sc_l_steps.nd rfl rfl (by decide) rfl rfl (pa_cons (pe_op op_mulW (pe_ix ix_tup (pv 0) pe_int (fun _ _ => rfl)) (pe_ix ix_tup (pv 1) pe_int (fun _ _ => rfl))) (pa_cons (pe_op op_mulW (pe_ix ix_tup (pv 0) pe_int (fun _ _ => rfl)) (pe_ix ix_tup (pv 1) pe_int (fun _ _ => rfl))) pa_nil)) (by rfl))
 (pss_cons (ps_set (i := 4) sc_l_steps.nd rfl (Or.inl rfl) (pe_op op_fdivW (pv 2) (pv 3)))
 (pss_one (ps_ret (pe_tup (pa_cons (pv 4) (pa_cons (pe_op op_sub (pv 2) (pe_op op_mulW (pv 4) (pv 3))) (pa_cons (pv 3) pa_nil)))))))), ?_⟩
    have td : (t * d).natAbs < 2 ^ 330 := natAbs_mul_lt (m := 120) (n := 210) ht (by omega) (by decide)
    have bc : (b * c).natAbs < 2 ^ 193 := natAbs_mul_lt (m := 71) (n := 122) (by omega) (by omega) (by decide)
    have bc0 : 0 < b * c := Int.mul_pos hb.1 hc.1
    walk_at "rdg"
    refine r_ixT hn (atI_nat (j := 0) rfl) ?_
    walk_at "rdg"
    refine r_ixT hg (atI_nat (j := 1) rfl) ?_
    refine r_I (wide_mul (a := 120) (b := 210) ht (by omega) (by decide) (by decide) (by decide)) ?_
    walk_at "rdg"
    refine r_ixT hn (atI_nat (j := 1) rfl) ?_
    walk_at "rdg"
    refine r_ixT hg (atI_nat (j := 0) rfl) ?_
    refine r_I (wide_mul (a := 71) (b := 122) (by omega) (by omega) (by decide) (by decide) (by decide)) ?_
    walk_at "rdg"
    refine r_I (wide_div bc0 (lt9000 (Nat.lt_of_lt_of_le bc (by decide))) (by decide) (Nat.le_refl _)) ?_
    walk_at "rdg"
    have qb : (t * d / (b * c)).natAbs < 2 ^ 330 := Nat.lt_of_le_of_lt (Int.natAbs_ediv_le_natAbs _ _) td
    refine r_I (wide_mul (a := 330) (b := 193) qb bc (by decide) (by decide) (by decide)) ?_
    walk_at "rdg"
    refine r_new (by show 3 ≤ 1000; decide) fun p hp => ?_
    exact k p _ (Same.new hp) upd_same
def byName (r : Way) (v1 v2 v3 v4 : V) : Option V := match r with
  | .up => some v1
  | .down => some v2
  | .high => some v3
  | .low => some v4
  | _ => none
def byHalf (r : Way) (v1 v2 v3 v4 : V) : Option V := match r with
  | .hup => some v1
  | .hdown => some v2
  | .heven => some v3
  | .hodd => some v4
  | _ => none
theorem val_name (r : Way) (v1 v2 v3 v4 : V) : valV (mergeK [] [((.inr "up" : Key), v1), (.inr "down", v2), (.inr "high", v3), (.inr "low", v4)]) (.inr (wname r)) = byName r v1 v2 v3 v4 := by cases r <;> rfl
theorem val_half (r : Way) (v1 v2 v3 v4 : V) : valV (mergeK [] [((.inr "half up" : Key), v1), (.inr "half down", v2), (.inr "half even", v3), (.inr "half odd", v4)]) (.inr (wname r)) = byHalf r v1 v2 v3 v4 := by cases r <;> rfl
theorem dget_name {H : Hp} {q : Addr} {r : Way} {v1 v2 v3 v4 v : V} (e : H q = some (.dK (mergeK [] [((.inr "up" : Key), v1), (.inr "down", v2), (.inr "high", v3), (.inr "low", v4)]))) (h : byName r v1 v2 v3 v4 = some v) : DGet H q (.str (wname r)) (some v) := by
  rw [← h, ← val_name]
  exact DGet.k (k := .inr (wname r)) e
theorem dget_half {H : Hp} {q : Addr} {r : Way} {v1 v2 v3 v4 v : V} (e : H q = some (.dK (mergeK [] [((.inr "half up" : Key), v1), (.inr "half down", v2), (.inr "half even", v3), (.inr "half odd", v4)]))) (h : byHalf r v1 v2 v3 v4 = some v) : DGet H q (.str (wname r)) (some v) := by
  rw [← h, ← val_half]
  exact DGet.k (k := .inr (wname r)) e
theorem some_name (r : Way) (v1 v2 v3 v4 : V) : (byName r v1 v2 v3 v4).isSome = !isHalf r := by cases r <;> rfl
theorem neg_dec (l : Int) : decide (l < 0) = !decide (0 ≤ l) := by
  by_cases z : 0 ≤ l
  · rw [decide_eq_true z, decide_eq_false (by omega)]; rfl
  · rw [decide_eq_false z, decide_eq_true (by omega)]; rfl
theorem name_is {r : Way} (h : isHalf r = false) (l : Int) (p : Rat) : byName r (.int (if decide (0 ≤ l) = true then l + 1 else l)) (.int (if (!decide (0 ≤ l)) = true then l + 1 else l)) (.int (l + 1)) (.int l) = some (.int (if ruleB r l p = true then l + 1 else l)) := by
  cases r <;> first | exact absurd h (by decide) | (simp only [byName, ruleB, neg_dec]; rfl) | simp [byName, ruleB]
theorem half_rule {r : Way} (h : isHalf r = true) (l : Int) (p : Rat) : ruleB r l p = nearerB p (tieUp r l) := by
  cases r <;> first | exact absurd h (by decide) | rfl
theorem half_is {r : Way} (h : isHalf r = true) (l : Int) : byHalf r (.int (if decide (0 ≤ l) = true then l + 1 else l)) (.int (if (!decide (0 ≤ l)) = true then l + 1 else l)) (.int (l + l % 2)) (.int (2 * l + 1 - (l + l % 2))) = some (.int (if tieUp r l = true then l + 1 else l)) := by
  cases r with
  | up => cases h
  | down => cases h
  | high => cases h
  | low => cases h
  | hup => rfl
  | hdown =>
    show some (V.int (if (!decide (0 ≤ l)) = true then l + 1 else l)) = some (V.int (if decide (l < 0) = true then l + 1 else l))
    rw [neg_dec]
  | heven =>
    have e : l + l % 2 = if decide (l % 2 = 1) = true then l + 1 else l := by
      by_cases z : l % 2 = 1
      · rw [if_pos (decide_eq_true z)]; omega
      · rw [if_neg (by simpa using z)]; omega
    show some (V.int (l + l % 2)) = some (V.int (if decide (l % 2 = 1) = true then l + 1 else l))
    rw [← e]
  | hodd =>
    have e : 2 * l + 1 - (l + l % 2) = if decide (l % 2 = 0) = true then l + 1 else l := by
      by_cases z : l % 2 = 0
      · rw [if_pos (decide_eq_true z)]; omega
      · rw [if_neg (by simpa using z)]; omega
    show some (V.int (2 * l + 1 - (l + l % 2))) = some (V.int (if decide (l % 2 = 0) = true then l + 1 else l))
    rw [← e]
def spCount : Sp := fun vs H Q _ => ∃ (n g : Addr) (t b c d : Int) (r : Way), vs = [.ref n, .ref g, .str (wname r)] ∧ H n = some (.tup [.int t, .int b]) ∧ H g = some (.tup [.int c, .int d]) ∧ t.natAbs < 2 ^ 120 ∧ (0 < b ∧ b < 2 ^ 71) ∧ (0 < c ∧ c < 2 ^ 122) ∧ (0 < d ∧ d < 2 ^ 210) ∧
  ∀ H' : Hp, Same H H' → Q (.int (takenQ r (Rat.divInt t b / Rat.divInt c d))) H'
theorem two_at {i j : Int} (k : Bool) : atI [V.int i, .int j] (if k then 1 else 0) = some (.int (if k = true then j else i)) := by cases k <;> rfl
theorem ok_l_count (T : Txt w K mg) : FnOk P w K mg base CX0 2 T.f_l_count T.fd_l_count ["_law_number", "_law_grain_here", "_law_rule"] spCount := by
  refine T.F_l_count.ok sc_l_count (fun vs H Q E h => ?_) (fun cdv A outer s H vs Q E hr h => ?_)
  · obtain ⟨n, g, t, b, c, d, r, rfl, _⟩ := h
    rfl
  · obtain ⟨n, g, t, b, c, d, r, rfl, hn, hg, ht, hb, hc, hd, k⟩ := h
    refine ⟨_, (pss_cons (ps_asg (pe_call (ok_l_steps T) (hr.mono (by decide)) (by rfl) T.m_l_steps T.F_l_steps.kp T.b_l_steps .nil pass0 (pa_cons (pv 0) (pa_cons (pv 1) pa_nil))) (pg_tup rfl (pgs_cons (pg_name (i := 3) sc_l_count.nd rfl (Or.inl rfl)) (pgs_cons (pg_name (i := 4) sc_l_count.nd rfl (Or.inl rfl)) (pgs_cons (pg_name (i := 5) sc_l_count.nd rfl (Or.inl rfl)) pgs_nil)))))
 (pss_cons (ps_if (pt_cmpR op_eq (pv 4) pe_int (nomark _))
  (pss_one (ps_ret (pv 3)))
  pss_nil)
 (pss_cons (ps_set (i := 6) sc_l_count.nd rfl (Or.inl rfl) (pe_cmpR op_gt (pe_ix ix_tup (pv 0) pe_int (fun _ _ => rfl)) pe_int (nomark _)))
 (pss_cons (ps_par (i := 7) (j := 8) rfl sc_l_count.nd rfl rfl (by decide) rfl rfl (pa_cons (pe_ix ix_list (pe_lst (pa_cons (pv 3) (pa_cons (pe_op op_add (pv 3) pe_int) pa_nil))) (pe_callTy call_int1 (by rfl) T.n_int (by decide +kernel) (pa_cons (pv 6) pa_nil)) (fun _ _ => rfl)) (pa_cons (pe_ix ix_list (pe_lst (pa_cons (pv 3) (pa_cons (pe_op op_add (pv 3) pe_int) pa_nil))) (pe_callTy call_int1 (by rfl) T.n_int (by decide +kernel) (pa_cons (pe_not (pv 6)) pa_nil)) (fun _ _ => rfl)) pa_nil)) (by rfl))
 (pss_cons (ps_set (i := 9) sc_l_count.nd rfl (Or.inl rfl) (pe_disp (pps_cons pe_str (pv 7) (pps_cons pe_str (pv 8) (pps_cons pe_str (pe_op op_add (pv 3) pe_int) (pps_cons pe_str (pv 3) pps_nil)))) rfl rfl (by simp) (by decide)))
 (pss_cons (ps_if (pt_cmp (pc_din (Nat.lt_of_le_of_lt (Nat.add_le_add_left (by decide) _) hr.units) (pv 2) (pv 9)) (by rfl))
  (pss_one (ps_ret (pe_dget (Nat.lt_of_le_of_lt (Nat.add_le_add_left (by decide) _) hr.units) (pv 9) (pv 2) (fun _ _ => rfl))))
  pss_nil)
 (pss_cons (ps_if (pt_cmpR op_ne (pe_op op_mul pe_int (pv 4)) (pv 5) (nomark _))
  (pss_one (ps_ret (pe_op op_add (pv 3) (pe_callTy call_int1 (by rfl) T.n_int (by decide +kernel) (pa_cons (pe_cmpR op_gt (pe_op op_mul pe_int (pv 4)) (pv 5) (nomark _)) pa_nil)))))
  pss_nil)
 (pss_cons (ps_set (i := 10) sc_l_count.nd rfl (Or.inl rfl) (pe_op op_add (pv 3) (pe_op op_mod (pv 3) pe_int)))
 (pss_one (ps_ret (pe_dget (Nat.lt_of_le_of_lt (Nat.add_le_add_left (by decide) _) hr.units) (pe_disp (pps_cons pe_str (pv 7) (pps_cons pe_str (pv 8) (pps_cons pe_str (pv 10) (pps_cons pe_str (pe_op op_sub (pe_op op_add (pe_op op_mul pe_int (pv 3)) pe_int) (pv 10)) pps_nil)))) rfl rfl (by simp) (by decide)) (pv 2) (fun _ _ => rfl)))))))))))), ?_⟩
    have bc0 : 0 < b * c := Int.mul_pos hb.1 hc.1
    have r0 : 0 ≤ t * d - t * d / (b * c) * (b * c) := by
      have := Int.emod_nonneg (t * d) (show b * c ≠ 0 by omega)
      rw [Int.emod_def, Int.mul_comm (b * c)] at this
      exact this
    have r1 : t * d - t * d / (b * c) * (b * c) < b * c := by
      have := Int.emod_lt_of_pos (t * d) bc0
      rw [Int.emod_def, Int.mul_comm (b * c)] at this
      exact this
    have split := steps_split (t := t) hb.1 hc.1 hd.1
    have pos : (0 < t) ↔ (0 ≤ t * d / (b * c) ∧ ¬ (t * d / (b * c) = 0 ∧ t * d - t * d / (b * c) * (b * c) = 0)) := by
      constructor
      · intro h
        have td : 0 < t * d := Int.mul_pos h hd.1
        refine ⟨Int.ediv_nonneg (by omega) (by omega), fun ⟨z1, z2⟩ => ?_⟩
        rw [z1] at z2
        omega
      · rintro ⟨h1, h2⟩
        refine Classical.byContradiction fun z => ?_
        have td : t * d ≤ 0 := Int.mul_nonpos_of_nonpos_of_nonneg (by omega) (by omega)
        have le : t * d / (b * c) ≤ 0 := by
          have := Int.ediv_le_ediv bc0 td
          rw [Int.zero_ediv] at this
          exact this
        have z0 : t * d / (b * c) = 0 := by omega
        rw [z0] at r0 h2
        omega
    walk_at "rdg"
    refine ⟨n, g, t, b, c, d, rfl, hn, hg, ht, hb, hc, hd, fun p H1 s1 h1 => ?_⟩
    refine r_gTup h1 rfl ?_
    rw [split] at k
    generalize t * d - t * d / (b * c) * (b * c) = rest at *
    generalize t * d / (b * c) = low at *
    generalize b * c = whole at *
    walk_at "rdg"
    refine r_ite (fun e => ?_) (fun e => ?_)
    · have e0 : rest = 0 := of_decide_eq_true e
      walk_at "rdg"
      have kk := k H1 s1
      have z : (low : Rat) + Rat.divInt rest whole = (low : Rat) := by
        rw [e0, Rat.divInt_eq_div]
        have e3 : ((0 : Int) : Rat) = 0 := rfl
        rw [e3]; grind
      rw [z, taken_int] at kk
      exact kk
    · have e0 : rest ≠ 0 := of_decide_eq_false e
      have rp : 0 < rest := by omega
      rw [taken_of rp r1] at k
      walk_at "rdg"
      refine r_ixT (s1 _ _ hn) (atI_nat (j := 0) rfl) ?_
      walk_at "rdg"
      refine r_new (by show 2 ≤ 1000; decide) fun l hl => ?_
      have s2 := Same.new (o := .lst [.int low, .int (low + 1)]) hl
      walk_at "rdg"
      refine .inr ⟨_, rfl, ?_⟩
      refine r_ixL upd_same (two_at _) ?_
      walk_at "rdg"
      refine r_new (by show 2 ≤ 1000; decide) fun l2 hl2 => ?_
      have s3 := Same.new (o := .lst [.int low, .int (low + 1)]) hl2
      walk_at "rdg"
      refine .inr ⟨_, rfl, ?_⟩
      refine r_ixL upd_same (two_at _) ?_
      walk_at "rdg"
      have s13 := (s1.trans s2).trans s3
      generalize upd (upd H1 l (.lst [.int low, .int (low + 1)])) l2 (.lst [.int low, .int (low + 1)]) = H3 at *
      have a1 : decide (0 < t) = decide (0 ≤ low) := by rw [decide_eq_decide, pos]; constructor <;> intro h <;> omega
      rw [a1]
      refine r_disp fun q hq => ?_
      walk_at "rdh"
      refine ⟨upd_same, [((.inr "up" : Key), V.int (if decide (0 ≤ low) = true then low + 1 else low)), (.inr "down", .int (if (!decide (0 ≤ low)) = true then low + 1 else low)), (.inr "high", .int (low + 1)), (.inr "low", .int low)], rfl, by show 4 ≤ 15; decide, ?_⟩
      have s4 := Same.dict (o1 := .dK []) (o2 := .dK (mergeK [] [((.inr "up" : Key), V.int (if decide (0 ≤ low) = true then low + 1 else low)), (.inr "down", .int (if (!decide (0 ≤ low)) = true then low + 1 else low)), (.inr "high", .int (low + 1)), (.inr "low", .int low)])) hq
      have hd4 : upd (upd H3 q (.dK [])) q (.dK (mergeK [] [((.inr "up" : Key), V.int (if decide (0 ≤ low) = true then low + 1 else low)), (.inr "down", .int (if (!decide (0 ≤ low)) = true then low + 1 else low)), (.inr "high", .int (low + 1)), (.inr "low", .int low)])) q = some (.dK (mergeK [] [((.inr "up" : Key), V.int (if decide (0 ≤ low) = true then low + 1 else low)), (.inr "down", .int (if (!decide (0 ≤ low)) = true then low + 1 else low)), (.inr "high", .int (low + 1)), (.inr "low", .int low)])) := upd_same
      generalize upd (upd H3 q (.dK [])) q (.dK (mergeK [] [((.inr "up" : Key), V.int (if decide (0 ≤ low) = true then low + 1 else low)), (.inr "down", .int (if (!decide (0 ≤ low)) = true then low + 1 else low)), (.inr "high", .int (low + 1)), (.inr "low", .int low)])) = H4 at *
      have s14 := s13.trans s4
      walk_at "rdh"
      refine ⟨q, _, rfl, DGet.k (k := .inr (wname r)) hd4, ?_⟩
      rw [val_name, some_name]
      walk_at "rdh"
      refine r_ite (fun e1 => ?_) (fun e1 => ?_)
      · have nh : isHalf r = false := by simpa using e1
        walk_at "rdh"
        refine ⟨q, _, rfl, dget_name hd4 (name_is nh low (Rat.divInt rest whole)), ?_⟩
        exact k _ s14
      · have nh : isHalf r = true := by simpa using e1
        rw [half_rule nh, nearer_div rp r1] at k
        walk_at "rdh"
        refine r_ite (fun e2 => ?_) (fun e2 => ?_)
        · have ne : ¬ 2 * rest = whole := by simpa using e2
          rw [if_neg ne] at k
          walk_at "rdh"
          refine .inr ⟨_, rfl, ?_⟩
          have ee : low + (if decide (whole < 2 * rest) = true then 1 else 0) = if decide (whole < 2 * rest) = true then low + 1 else low := by split <;> omega
          walk_at "rdh"
          rw [ee]
          exact k _ s14
        · have ne : 2 * rest = whole := by simpa using e2
          rw [if_pos ne] at k
          walk_at "rdh"
          refine r_disp fun q2 hq2 => ?_
          walk_at "rdh"
          refine ⟨upd_same, [((.inr "half up" : Key), V.int (if decide (0 ≤ low) = true then low + 1 else low)), (.inr "half down", .int (if (!decide (0 ≤ low)) = true then low + 1 else low)), (.inr "half even", .int (low + low % 2)), (.inr "half odd", .int (2 * low + 1 - (low + low % 2)))], rfl, by show 4 ≤ 15; decide, ?_⟩
          walk_at "rdh"
          refine ⟨q2, _, rfl, dget_half upd_same (half_is nh low), ?_⟩
          exact k _ (s14.trans (Same.dict hq2))
end
end My

namespace My
open PySem L2 TL NumText
/-! ### bent papers, at the heap -/
def El.small : El → Prop
  | .int z => z.natAbs < 2 ^ 300 | .str z => z.natAbs < 2 ^ 300 | .tup z => z.natAbs < 2 ^ 300 | .lst z => z.natAbs < 2 ^ 300 | _ => True
def ElAt (d c : Addr) (H : Hp) (v : V) : El → Prop
  | .int z => v = .int z
  | .bool b => v = .bl b
  | .str z => v = .str (TI z)
  | .non => v = .non
  | .tup z => ∃ p, v = .ref p ∧ H p = some (.tup [.int z])
  | .lst z => ∃ p, v = .ref p ∧ p ≠ d ∧ p ≠ c ∧ H p = some (.lst [.int z])
inductive ElsAt (d c : Addr) (H : Hp) : List V → List El → Prop where
  | nil : ElsAt d c H [] []
  | cons {v : V} {e : El} {vs : List V} {es : List El} : ElAt d c H v e → ElsAt d c H vs es → ElsAt d c H (v :: vs) (e :: es)
theorem ElAt.off {d c : Addr} {H H' : Hp} {v : V} {e : El} (o : Off d c H H') (dk : DeckAt H d c) (h : ElAt d c H v e) : ElAt d c H' v e := by
  cases e with
  | tup z =>
    obtain ⟨p, rfl, hp⟩ := h
    exact ⟨p, rfl, o.keep dk hp (fun _ z => by cases z)⟩
  | lst z =>
    obtain ⟨p, rfl, n1, n2, hp⟩ := h
    exact ⟨p, rfl, n1, n2, o _ _ n1 n2 hp⟩
  | _ => exact h
theorem ElAt.same {d c : Addr} {H H' : Hp} {v : V} {e : El} (s : Same H H') (h : ElAt d c H v e) : ElAt d c H' v e := by
  cases e with
  | tup z =>
    obtain ⟨p, rfl, hp⟩ := h
    exact ⟨p, rfl, s _ _ hp⟩
  | lst z =>
    obtain ⟨p, rfl, n1, n2, hp⟩ := h
    exact ⟨p, rfl, n1, n2, s _ _ hp⟩
  | _ => exact h
theorem ElsAt.off {d c : Addr} {H H' : Hp} {vs : List V} {es : List El} (o : Off d c H H') (dk : DeckAt H d c) (h : ElsAt d c H vs es) : ElsAt d c H' vs es := by
  induction h with
  | nil => exact .nil
  | cons h1 _ ih => exact .cons (h1.off o dk) ih
theorem ElsAt.same {d c : Addr} {H H' : Hp} {vs : List V} {es : List El} (s : Same H H') (h : ElsAt d c H vs es) : ElsAt d c H' vs es := by
  induction h with
  | nil => exact .nil
  | cons h1 _ ih => exact .cons (h1.same s) ih
theorem ElsAt.len {d c : Addr} {H : Hp} {vs : List V} {es : List El} (h : ElsAt d c H vs es) : vs.length = es.length := by
  induction h with
  | nil => rfl
  | cons _ _ ih => rw [List.length_cons, List.length_cons, ih]
theorem ElAt.dp {d c : Addr} {K : PySem.W.Frag} {H : Hp} {v : V} {e : El} (h : ElAt d c H v e) : Dp K H v e.data := by
  cases e with
  | int z => rw [show v = .int z from h]; exact .int _
  | bool z => rw [show v = .bl z from h]; exact .bl _
  | str z => rw [show v = .str (TI z) from h]; exact .str _
  | non => rw [show v = .non from h]; exact .non
  | tup z =>
    obtain ⟨p, rfl, hp⟩ := h
    exact .tup (SqT.of hp) (.cons (.int _) .nil)
  | lst z =>
    obtain ⟨p, rfl, _, _, hp⟩ := h
    exact .lst (SqL.of hp) (.cons (.int _) .nil)
theorem ElsAt.dp {d c : Addr} {K : PySem.W.Frag} {H : Hp} {vs : List V} {es : List El} (h : ElsAt d c H vs es) : DpAll K H vs (es.map El.data) := by
  induction h with
  | nil => exact .nil
  | cons h1 _ ih => exact .cons h1.dp ih
theorem int300 {z : Int} (h : z.natAbs < 2 ^ 300) : z.natAbs.log2 < 300 := PySem.Flt.log2_lt_of (by decide) h
theorem len300 {z : Int} (h : z.natAbs < 2 ^ 300) : (TI z).length ≤ 92 := by
  have := signL_len (i := z) (k := 91) (by decide) (Nat.lt_of_lt_of_le h (by decide))
  rw [TI_len]
  split at this <;> omega
structure Ok (d : PyData) (n : Nat) : Prop where
  sh : d.showable = true
  hd : d.hasDict = false
  dp : d.depth ≤ 1
  ls : d.leavesShort 1921 = true
  wt : d.weight ≤ n
theorem ok_int {z : Int} (h : z.natAbs < 2 ^ 300) : Ok (.int z) 302 := by
  have l := int300 h
  refine ⟨?_, by simp [PyData.hasDict], by simp [PyData.depth], ?_, ?_⟩
  · simp only [PyData.showable, decide_eq_true_eq]; omega
  · simp only [PyData.leavesShort, decide_eq_true_eq]
    exact PyProof.Rows.int_text_len_1921 (by omega)
  · simp only [PyData.weight]
    split <;> omega
theorem ok_one {z : Int} (h : z.natAbs < 2 ^ 300) : Ok (.tuple [.int z]) 303 ∧ Ok (.list [.int z]) 303 := by
  obtain ⟨a, b, c, d, e⟩ := ok_int h
  constructor
  · refine ⟨?_, ?_, ?_, ?_, ?_⟩
    · simp only [PyData.showable, PyData.showableAll, Bool.and_true]; exact a
    · simp [PyData.hasDict, PyData.hasDictAll]
    · simp [PyData.depth, PyData.depthAll]
    · simp only [PyData.leavesShort, PyData.leavesShortAll, Bool.and_true]; exact d
    · simp only [PyData.weight, PyData.weightAll]; simp only [PyData.weight] at e; omega
  · refine ⟨?_, ?_, ?_, ?_, ?_⟩
    · simp only [PyData.showable, PyData.showableAll, Bool.and_true]; exact a
    · simp [PyData.hasDict, PyData.hasDictAll]
    · simp [PyData.depth, PyData.depthAll]
    · simp only [PyData.leavesShort, PyData.leavesShortAll, Bool.and_true]; exact d
    · simp only [PyData.weight, PyData.weightAll]; simp only [PyData.weight] at e; omega
theorem ok_el {e : El} (h : e.small) : Ok e.data 303 := by
  cases e with
  | int z =>
    obtain ⟨a, b, c, d, e⟩ := ok_int (z := z) h
    exact ⟨a, b, c, d, Nat.le_trans e (by decide)⟩
  | bool b => exact ⟨rfl, by simp [El.data, PyData.hasDict], by simp [El.data, PyData.depth], rfl, by simp [El.data, PyData.weight]⟩
  | non => exact ⟨rfl, by simp [El.data, PyData.hasDict], by simp [El.data, PyData.depth], rfl, by simp [El.data, PyData.weight]⟩
  | str z =>
    have l := len300 (z := z) h
    refine ⟨rfl, by simp [El.data, PyData.hasDict], by simp [El.data, PyData.depth], ?_, ?_⟩
    · show ((TI z).cps.toList.all fun c => decide (c < 16 ^ 8)) = true
      rw [show (TI z).cps.toList = signL z from tl_TI z, List.all_eq_true]
      intro c hc
      have := fine_signL hc
      unfold Fine at this
      exact decide_eq_true (by omega)
    · show (TI z).cps.size ≤ 303
      have : (TI z).cps.size = (TI z).length := rfl
      omega
  | tup z => exact (ok_one (z := z) h).1
  | lst z => exact (ok_one (z := z) h).2
theorem ok_els : ∀ {es : List El}, (∀ e ∈ es, e.small) → PyData.showableAll (es.map El.data) = true ∧ PyData.hasDictAll (es.map El.data) = false ∧ PyData.depthAll (es.map El.data) ≤ 1 ∧ PyData.leavesShortAll 1921 (es.map El.data) = true ∧ PyData.weightAll (es.map El.data) ≤ 304 * es.length
  | [], _ => ⟨rfl, rfl, Nat.zero_le _, rfl, Nat.zero_le _⟩
  | e :: es, h => by
    obtain ⟨a, b, c, d, w⟩ := ok_el (h e (List.mem_cons_self ..))
    obtain ⟨a', b', c', d', w'⟩ := ok_els fun x hx => h x (List.mem_cons_of_mem _ hx)
    refine ⟨?_, ?_, ?_, ?_, ?_⟩
    · show (PyData.showable e.data && PyData.showableAll (es.map El.data)) = true
      rw [a, a']; rfl
    · show (PyData.hasDict e.data || PyData.hasDictAll (es.map El.data)) = false
      rw [b, b']; rfl
    · show max (PyData.depth e.data) (PyData.depthAll (es.map El.data)) ≤ 1
      omega
    · show (PyData.leavesShort 1921 e.data && PyData.leavesShortAll 1921 (es.map El.data)) = true
      rw [d, d']; rfl
    · show PyData.weight e.data + 1 + PyData.weightAll (es.map El.data) ≤ 304 * (es.length + 1)
      omega
theorem els_fit {es : List El} (h : ∀ e ∈ es, e.small) (n : es.length ≤ 4) : ∀ (k : Bool), let d := if k then PyData.tuple (es.map El.data) else PyData.list (es.map El.data)
    d.showable = true ∧ d.hasDict = false ∧ d.depth ≤ 60 ∧ d.shown.length ≤ sizeLine := by
  obtain ⟨a, b, c, d, w⟩ := ok_els h
  intro k
  have sl : sizeLine = 16777216 := rfl
  cases k with
  | true =>
    refine ⟨a, b, ?_, ?_⟩
    · show PyData.depthAll (es.map El.data) + 1 ≤ 60
      omega
    · have := PyData.shown_le 1921 (by decide) (.tuple (es.map El.data)) d
      have w' : (PyData.tuple (es.map El.data)).weight ≤ 1216 := by
        show PyData.weightAll (es.map El.data) ≤ 1216
        omega
      have : (PyData.tuple (es.map El.data)).shown.length ≤ 16777216 := by omega
      exact this
  | false =>
    refine ⟨a, b, ?_, ?_⟩
    · show PyData.depthAll (es.map El.data) + 1 ≤ 60
      omega
    · have := PyData.shown_le 1921 (by decide) (.list (es.map El.data)) d
      have w' : (PyData.list (es.map El.data)).weight ≤ 1216 := by
        show PyData.weightAll (es.map El.data) ≤ 1216
        omega
      have : (PyData.list (es.map El.data)).shown.length ≤ 16777216 := by omega
      exact this
/-- what is handed to the checker -/
inductive Th where
  | non | tru | zero | emp | dct | tup (es : List El) | lst (zs : List Int)
def Th.fit : Th → Prop
  | .tup es => es.length ≤ 4 ∧ es.length ≠ 1 ∧ ∀ e ∈ es, e.small
  | .lst zs => zs.length ≤ 4 ∧ ∀ z ∈ zs, z.natAbs < 2 ^ 300
  | _ => True
def ThAt (d c : Addr) (H : Hp) (v : V) : Th → Prop
  | .non => v = .non
  | .tru => v = .bl true
  | .zero => v = .int 0
  | .emp => v = .str ""
  | .dct => ∃ p, v = .ref p ∧ H p = some (.dK [])
  | .tup es => ∃ p vs, v = .ref p ∧ H p = some (.tup vs) ∧ ElsAt d c H vs es
  | .lst zs => ∃ p, v = .ref p ∧ p ≠ d ∧ p ≠ c ∧ H p = some (.lst (zs.map V.int))
def Th.text : Th → Str
  | .non => "None" | .tru => "True" | .zero => PyData.shown (.int 0) | .emp => PyData.shown (.str "") | .dct => "{}"
  | .tup es => PyData.shown (.tuple (es.map El.data)) | .lst zs => PyData.shown (.list (zs.map PyData.int))
theorem ThAt.off {d c : Addr} {H H' : Hp} {v : V} {t : Th} (o : Off d c H H') (dk : DeckAt H d c) (h : ThAt d c H v t) : ThAt d c H' v t := by
  cases t with
  | dct =>
    obtain ⟨p, rfl, hp⟩ := h
    exact ⟨p, rfl, o.keep dk hp (fun _ z => by cases z)⟩
  | tup es =>
    obtain ⟨p, vs, rfl, hp, he⟩ := h
    exact ⟨p, vs, rfl, o.keep dk hp (fun _ z => by cases z), he.off o dk⟩
  | lst zs =>
    obtain ⟨p, rfl, n1, n2, hp⟩ := h
    exact ⟨p, rfl, n1, n2, o _ _ n1 n2 hp⟩
  | _ => exact h
theorem ThAt.same {d c : Addr} {H H' : Hp} {v : V} {t : Th} (s : Same H H') (h : ThAt d c H v t) : ThAt d c H' v t := by
  cases t with
  | dct =>
    obtain ⟨p, rfl, hp⟩ := h
    exact ⟨p, rfl, s _ _ hp⟩
  | tup es =>
    obtain ⟨p, vs, rfl, hp, he⟩ := h
    exact ⟨p, vs, rfl, s _ _ hp, he.same s⟩
  | lst zs =>
    obtain ⟨p, rfl, n1, n2, hp⟩ := h
    exact ⟨p, rfl, n1, n2, s _ _ hp⟩
  | _ => exact h
theorem rd_reprT {d c : Addr} {K : PySem.W.Frag} {H : Hp} {v : V} {t : Th} {Q : VK} (h : ThAt d c H v t) (f : t.fit) (q : Q (.str t.text) H) : rReprT K [v] H Q := by
  cases t with
  | non => exact .inl ⟨_, .none, rfl, (show v = .non from h) ▸ .non, rfl, rfl, by decide, by decide +kernel, q⟩
  | tru => exact .inl ⟨_, .bool true, rfl, (show v = .bl true from h) ▸ .bl _, rfl, rfl, by decide, by decide +kernel, q⟩
  | zero => exact .inl ⟨_, .int 0, rfl, (show v = .int 0 from h) ▸ .int _, by decide +kernel, rfl, by decide, by decide +kernel, q⟩
  | emp => exact .inl ⟨_, .str "", rfl, (show v = .str "" from h) ▸ .str _, rfl, rfl, by decide, by decide +kernel, q⟩
  | dct =>
    obtain ⟨p, rfl, hp⟩ := h
    exact .inr ⟨p, rfl, hp, q⟩
  | tup es =>
    obtain ⟨p, vs, rfl, hp, he⟩ := h
    obtain ⟨a, b, cc, dd⟩ := els_fit f.2.2 f.1 true
    exact .inl ⟨_, .tuple (es.map El.data), rfl, .tup (SqT.of hp) he.dp, a, b, cc, dd, q⟩
  | lst zs =>
    obtain ⟨p, rfl, _, _, hp⟩ := h
    have e : (zs.map El.int).map El.data = zs.map PyData.int := by rw [List.map_map]; rfl
    obtain ⟨a, b, cc, dd⟩ := els_fit (es := zs.map El.int) (fun x hx => by
      obtain ⟨z, hz, rfl⟩ := List.mem_map.mp hx
      exact f.2 z hz) (by rw [List.length_map]; exact f.1) false
    rw [e] at a b cc dd
    exact .inl ⟨_, .list (zs.map PyData.int), rfl, .lst (SqL.of hp) (dp_ints zs), a, b, cc, dd, q⟩
def Th.isTup : Th → Bool
  | .tup _ => true
  | _ => false
theorem ty_th {d c : Addr} {K : PySem.W.Frag} {H : Hp} {v : V} {t : Th} {Q : VK} (h : ThAt d c H v t) (q : Q (.bl t.isTup) H) : rIsi K [v, .ty "tuple"] H Q := by
  cases t with
  | non => exact ⟨v, .ty "tuple", .type "NoneType", .type "tuple", false, rfl, .ty "tuple", .base ((show v = .non from h) ▸ .non), kit_ty (by decide +kernel), q⟩
  | tru => exact ⟨v, .ty "tuple", .type "bool", .type "tuple", false, rfl, .ty "tuple", .base ((show v = .bl true from h) ▸ .bl _), kit_ty (by decide +kernel), q⟩
  | zero => exact ⟨v, .ty "tuple", .type "int", .type "tuple", false, rfl, .ty "tuple", .base ((show v = .int 0 from h) ▸ .int _), kit_ty (by decide +kernel), q⟩
  | emp => exact ⟨v, .ty "tuple", .type "str", .type "tuple", false, rfl, .ty "tuple", .base ((show v = .str "" from h) ▸ .str _), kit_ty (by decide +kernel), q⟩
  | dct =>
    obtain ⟨p, rfl, hp⟩ := h
    exact ⟨.ref p, .ty "tuple", .type "dict", .type "tuple", false, rfl, .ty "tuple", .base (.dK hp), kit_ty (by decide +kernel), q⟩
  | tup es =>
    obtain ⟨p, vs, rfl, hp, he⟩ := h
    exact ⟨.ref p, .ty "tuple", .type "tuple", .type "tuple", true, rfl, .ty "tuple", .base (.tup hp), kit_ty (by decide +kernel), q⟩
  | lst zs =>
    obtain ⟨p, rfl, _, _, hp⟩ := h
    exact ⟨.ref p, .ty "tuple", .type "list", .type "tuple", false, rfl, .ty "tuple", .base (.lst hp), kit_ty (by decide +kernel), q⟩
def El.isInt : El → Bool
  | .int _ => true
  | .bool _ => true
  | _ => false
def El.isBool : El → Bool
  | .bool _ => true
  | _ => false
theorem ty_el {d c : Addr} {K : PySem.W.Frag} {H : Hp} {v : V} {e : El} {Q : VK} (h : ElAt d c H v e) (q : Q (.bl e.isInt) H) : rIsi K [v, .ty "int"] H Q := by
  cases e with
  | int z => exact ⟨v, .ty "int", .type "int", .type "int", true, rfl, .ty "int", .base ((show v = .int z from h) ▸ .int _), kit_ty (by decide +kernel), q⟩
  | bool z => exact ⟨v, .ty "int", .type "bool", .type "int", true, rfl, .ty "int", .base ((show v = .bl z from h) ▸ .bl _), kit_ty (by decide +kernel), q⟩
  | str z => exact ⟨v, .ty "int", .type "str", .type "int", false, rfl, .ty "int", .base ((show v = .str (TI z) from h) ▸ .str _), kit_ty (by decide +kernel), q⟩
  | non => exact ⟨v, .ty "int", .type "NoneType", .type "int", false, rfl, .ty "int", .base ((show v = .non from h) ▸ .non), kit_ty (by decide +kernel), q⟩
  | tup z =>
    obtain ⟨p, rfl, hp⟩ := h
    exact ⟨.ref p, .ty "int", .type "tuple", .type "int", false, rfl, .ty "int", .base (.tup hp), kit_ty (by decide +kernel), q⟩
  | lst z =>
    obtain ⟨p, rfl, _, _, hp⟩ := h
    exact ⟨.ref p, .ty "int", .type "list", .type "int", false, rfl, .ty "int", .base (.lst hp), kit_ty (by decide +kernel), q⟩
theorem ty_elb {d c : Addr} {K : PySem.W.Frag} {H : Hp} {v : V} {e : El} {Q : VK} (h : ElAt d c H v e) (i : e.isInt = true) (q : Q (.bl e.isBool) H) : rIsi K [v, .ty "bool"] H Q := by
  cases e with
  | int z => exact ⟨v, .ty "bool", .type "int", .type "bool", false, rfl, .ty "bool", .base ((show v = .int z from h) ▸ .int _), kit_ty (by decide +kernel), q⟩
  | bool z => exact ⟨v, .ty "bool", .type "bool", .type "bool", true, rfl, .ty "bool", .base ((show v = .bl z from h) ▸ .bl _), kit_ty (by decide +kernel), q⟩
  | _ => cases i
end My

namespace My
open PySem L2
section
variable {P : Program} {w : World} {K : PySem.W.Frag} {mg : Str → Option Value} {base : Heap}
theorem r_chain {r r' : R2} {ta tb tc : TE} {σ : L2.St} {H : Hp} {Q : VK} (q : ta σ H fun x H1 => tb σ H1 fun y H2 => r x y H2 fun z H3 => ∃ k, z = .bl k ∧ (if k = true then tc σ H3 fun w' H4 => r' y w' H4 Q else Q (.bl false) H3)) : tChain r r' ta tb tc σ H Q := q
def spChk (r : Way) : Sp := fun vs H Q _ => ∃ a b : Int, vs = [.int a, .int b] ∧ Q (.bl (chk r a b)) H
theorem ok_is_from_nought (T : Txt w K mg) : FnOk P w K mg base CX0 1 T.f_is_from_nought T.fd_is_from_nought ["taken", "other"] (spChk .up) := by
  refine T.F_is_from_nought.ok sc_is_from_nought (fun vs H Q E h => ?_) (fun cdv A outer s H vs Q E hr h => ?_)
  · obtain ⟨a, b, rfl, _⟩ := h
    rfl
  · obtain ⟨a, b, rfl, k⟩ := h
    refine ⟨_, (pss_one (ps_ret (pe_cmpR op_gt (pe_callB call_abs (by rfl) T.n_abs (by decide +kernel) (pa_cons (pv 0) pa_nil)) (pe_callB call_abs (by rfl) T.n_abs (by decide +kernel) (pa_cons (pv 1) pa_nil)) (nomark _)))), ?_⟩
    walk_at "rdh"
    refine ⟨_, rfl, ?_⟩
    walk_at "rdh"
    refine ⟨_, rfl, ?_⟩
    walk_at "rdh"
    exact k
theorem ok_is_to_nought (T : Txt w K mg) : FnOk P w K mg base CX0 1 T.f_is_to_nought T.fd_is_to_nought ["taken", "other"] (spChk .down) := by
  refine T.F_is_to_nought.ok sc_is_to_nought (fun vs H Q E h => ?_) (fun cdv A outer s H vs Q E hr h => ?_)
  · obtain ⟨a, b, rfl, _⟩ := h
    rfl
  · obtain ⟨a, b, rfl, k⟩ := h
    refine ⟨_, (pss_one (ps_ret (pe_cmpR op_lt (pe_callB call_abs (by rfl) T.n_abs (by decide +kernel) (pa_cons (pv 0) pa_nil)) (pe_callB call_abs (by rfl) T.n_abs (by decide +kernel) (pa_cons (pv 1) pa_nil)) (nomark _)))), ?_⟩
    walk_at "rdh"
    refine ⟨_, rfl, ?_⟩
    walk_at "rdh"
    refine ⟨_, rfl, ?_⟩
    walk_at "rdh"
    exact k
theorem ok_is_greater (T : Txt w K mg) : FnOk P w K mg base CX0 1 T.f_is_greater T.fd_is_greater ["taken", "other"] (spChk .high) := by
  refine T.F_is_greater.ok sc_is_greater (fun vs H Q E h => ?_) (fun cdv A outer s H vs Q E hr h => ?_)
  · obtain ⟨a, b, rfl, _⟩ := h
    rfl
  · obtain ⟨a, b, rfl, k⟩ := h
    refine ⟨_, (pss_one (ps_ret (pe_cmpR op_gt (pv 0) (pv 1) (nomark _)))), ?_⟩
    walk_at "rdh"
    exact k
theorem ok_is_lesser (T : Txt w K mg) : FnOk P w K mg base CX0 1 T.f_is_lesser T.fd_is_lesser ["taken", "other"] (spChk .low) := by
  refine T.F_is_lesser.ok sc_is_lesser (fun vs H Q E h => ?_) (fun cdv A outer s H vs Q E hr h => ?_)
  · obtain ⟨a, b, rfl, _⟩ := h
    rfl
  · obtain ⟨a, b, rfl, k⟩ := h
    refine ⟨_, (pss_one (ps_ret (pe_cmpR op_lt (pv 0) (pv 1) (nomark _)))), ?_⟩
    walk_at "rdh"
    exact k
theorem ok_is_even (T : Txt w K mg) : FnOk P w K mg base CX0 1 T.f_is_even T.fd_is_even ["taken", "other"] (spChk .heven) := by
  refine T.F_is_even.ok sc_is_even (fun vs H Q E h => ?_) (fun cdv A outer s H vs Q E hr h => ?_)
  · obtain ⟨a, b, rfl, _⟩ := h
    rfl
  · obtain ⟨a, b, rfl, k⟩ := h
    refine ⟨_, (pss_one (ps_ret (pe_cmpR op_eq (pe_op op_mod (pv 0) pe_int) pe_int (nomark _)))), ?_⟩
    walk_at "rdh"
    exact k
theorem ok_is_odd (T : Txt w K mg) : FnOk P w K mg base CX0 1 T.f_is_odd T.fd_is_odd ["taken", "other"] (spChk .hodd) := by
  refine T.F_is_odd.ok sc_is_odd (fun vs H Q E h => ?_) (fun cdv A outer s H vs Q E hr h => ?_)
  · obtain ⟨a, b, rfl, _⟩ := h
    rfl
  · obtain ⟨a, b, rfl, k⟩ := h
    refine ⟨_, (pss_one (ps_ret (pe_cmpR op_eq (pe_op op_mod (pv 0) pe_int) pe_int (nomark _)))), ?_⟩
    walk_at "rdh"
    exact k
def bare : Way → Str
  | .hup => "up" | .hdown => "down" | .heven => "even" | .hodd => "odd" | r => wname r
theorem bare_of (r : Way) : Txt.removeprefix (wname r) "half " = bare r := by cases r <;> decide +kernel
theorem starts_half (r : Way) : Txt.startswith (wname r) "half " = isHalf r := by cases r <;> decide +kernel
theorem way_len (r : Way) : (wname r).length ≤ sizeLine := by cases r <;> decide +kernel
theorem chk_held (T : Txt w K mg) (r : Way) : ∃ (f : Addr) (fd : FuncData), FnOk P w K mg base CX0 1 f fd ["taken", "other"] (spChk r) ∧ PySem.W.keepIn K (.ref f) = true ∧ Binds K fd ["taken", "other"] [] ∧ KDct K w T.D_CHECKS (bare r) (.ref f) := by
  cases r with
  | up => exact ⟨_, _, ok_is_from_nought T, T.F_is_from_nought.kp, T.b_is_from_nought, _, _, _, T.l_CHECKS, T.k_CHECKS, T.chk_is_from_nought, rfl⟩
  | down => exact ⟨_, _, ok_is_to_nought T, T.F_is_to_nought.kp, T.b_is_to_nought, _, _, _, T.l_CHECKS, T.k_CHECKS, T.chk_is_to_nought, rfl⟩
  | high => exact ⟨_, _, ok_is_greater T, T.F_is_greater.kp, T.b_is_greater, _, _, _, T.l_CHECKS, T.k_CHECKS, T.chk_is_greater, rfl⟩
  | low => exact ⟨_, _, ok_is_lesser T, T.F_is_lesser.kp, T.b_is_lesser, _, _, _, T.l_CHECKS, T.k_CHECKS, T.chk_is_lesser, rfl⟩
  | hup => exact ⟨_, _, ok_is_from_nought T, T.F_is_from_nought.kp, T.b_is_from_nought, _, _, _, T.l_CHECKS, T.k_CHECKS, T.chk_is_from_nought, rfl⟩
  | hdown => exact ⟨_, _, ok_is_to_nought T, T.F_is_to_nought.kp, T.b_is_to_nought, _, _, _, T.l_CHECKS, T.k_CHECKS, T.chk_is_to_nought, rfl⟩
  | heven => exact ⟨_, _, ok_is_even T, T.F_is_even.kp, T.b_is_even, _, _, _, T.l_CHECKS, T.k_CHECKS, T.chk_is_even, rfl⟩
  | hodd => exact ⟨_, _, ok_is_odd T, T.F_is_odd.kp, T.b_is_odd, _, _, _, T.l_CHECKS, T.k_CHECKS, T.chk_is_odd, rfl⟩
def spGoes (C : Addr) : Sp := fun vs H Q _ => ∃ (s : Addr) (u : Rat) (r : Way) (a b : Int), vs = [.ref s, .str (wname r), .int a, .int b] ∧ NumAt C H s u ∧ Bd 2000 u ∧ a.natAbs < 2 ^ 2002 ∧ b.natAbs < 2 ^ 2002 ∧ Q (.bl (goesB r u a b)) H
theorem ok_goes_to (T : Txt w K mg) : FnOk P w K mg base CX0 2 T.f_goes_to T.fd_goes_to ["steps", "way", "taken", "other"] (spGoes T.C_Number) := by
  refine T.F_goes_to.ok sc_goes_to (fun vs H Q E h => ?_) (fun cdv A outer s H vs Q E hr h => ?_)
  · obtain ⟨st, u, r, a, b, rfl, _⟩ := h
    rfl
  · obtain ⟨st, u, r, a, b, rfl, ⟨ds, hs⟩, bu, ab, bb, k⟩ := h
    have cN := T.c_Number
    have nT := T.n_Number_top
    have nB := T.n_Number_bottom
    obtain ⟨f, fd, Fr, kr, br, kd⟩ := chk_held (P := P) (base := base) T r
    refine ⟨_, (pss_cons (ps_if (pt_val (pe_m1 PySem.F.slot_str_startswith PySem.F.type_str_startswith mt_startswith (pv 1) pe_str))
  (pss_cons (ps_set (i := 4) sc_goes_to.nd rfl (Or.inl rfl) (pe_callB call_abs (by rfl) T.n_abs (by decide +kernel) (pa_cons (pe_op op_sub (pe_op op_mulW (pv 2) (pe_fld (pv 0) rfl)) (pe_fld (pv 0) rfl)) pa_nil)))
 (pss_cons (ps_set (i := 5) sc_goes_to.nd rfl (Or.inl rfl) (pe_callB call_abs (by rfl) T.n_abs (by decide +kernel) (pa_cons (pe_op op_sub (pe_op op_mulW (pv 3) (pe_fld (pv 0) rfl)) (pe_fld (pv 0) rfl)) pa_nil)))
 (pss_one (ps_if (pt_cmpR op_ne (pv 4) (pv 5) (nomark _))
  (pss_one (ps_ret (pe_cmpR op_lt (pv 4) (pv 5) (nomark _))))
  pss_nil))))
  pss_nil)
 (pss_cons (ps_set (i := 6) sc_goes_to.nd rfl (Or.inl rfl) (pe_ix ix_kdict (pe_glob (v := .ref T.D_CHECKS) (by rfl) T.m_CHECKS rfl) (pe_m1 PySem.F.slot_str_removeprefix PySem.F.type_str_removeprefix mt_removeprefix (pv 1) pe_str) (fun _ _ => rfl)))
 (pss_one (ps_ret (pe_callL (i := 6) Fr (hr.mono (by decide)) rfl (Or.inl rfl) kr br .nil pass0 (pa_cons (pv 2) (pa_cons (pv 3) pa_nil))))))), ?_⟩
    have dd : ((u.den : Nat) : Int).natAbs < 2 ^ 2000 := bd_den bu
    unfold goesB at k
    walk_at "rdh"
    refine ⟨_, _, rfl, rfl, ?_⟩
    rw [starts_half]
    walk_at "rdh"
    refine r_ite (fun e => ?_) (fun e => ?_)
    · rw [if_pos e] at k
      walk_at "rdf"
      walk_at "rdh"
      refine r_I (wide_mul (a := 2002) (b := 2000) ab dd (by decide) (by decide) (by decide)) ?_
      walk_at "rdf"
      walk_at "rdh"
      refine ⟨_, rfl, ?_⟩
      walk_at "rdf"
      walk_at "rdh"
      refine r_I (wide_mul (a := 2002) (b := 2000) bb dd (by decide) (by decide) (by decide)) ?_
      walk_at "rdf"
      walk_at "rdh"
      refine ⟨_, rfl, ?_⟩
      walk_at "rdh"
      have k' : Q (.bl (if offI u a = offI u b then chk r a b else decide (offI u a < offI u b))) H := k
      refine r_ite (fun e2 => ?_) (fun e2 => ?_)
      · have ne : ¬ offI u a = offI u b := by
          have e3 : (!decide (offI u a = offI u b)) = true := e2
          simpa using e3
        rw [if_neg ne] at k'
        walk_at "rdh"
        exact k'
      · have eq : offI u a = offI u b := by
          have e3 : (!decide (offI u a = offI u b)) = false := e2
          simpa using e3
        rw [if_pos eq] at k'
        walk_at "rdh"
        refine ⟨_, _, rfl, rfl, way_len r, ?_⟩
        rw [bare_of]
        walk_at "rdh"
        refine ⟨_, _, _, rfl, rfl, kd, ?_⟩
        walk_at "rdh"
        refine ⟨rfl, ?_⟩
        walk_at "rdh"
        exact ⟨a, b, rfl, k'⟩
    · rw [if_neg (by rw [e]; simp)] at k
      walk_at "rdh"
      refine ⟨_, _, rfl, rfl, way_len r, ?_⟩
      rw [bare_of]
      walk_at "rdh"
      refine ⟨_, _, _, rfl, rfl, kd, ?_⟩
      walk_at "rdh"
      refine ⟨rfl, ?_⟩
      walk_at "rdh"
      exact ⟨a, b, rfl, k⟩
end
end My

namespace My
open PySem L2
section
variable {P : Program} {w : World} {K : PySem.W.Frag} {mg : Str → Option Value} {base : Heap}
theorem isI_of (e : El) : e.isI = (e.isInt && !e.isBool) := by cases e <;> rfl
def spWhole : Sp := fun vs H Q _ => ∃ (v : V) (e : El) (d c : Addr), vs = [v] ∧ ElAt d c H v e ∧ Q (.bl e.isI) H
theorem ok_is_whole (T : Txt w K mg) : FnOk P w K mg base CX0 1 T.f_is_whole T.fd_is_whole ["thing"] spWhole := by
  refine T.F_is_whole.ok sc_is_whole (fun vs H Q E h => ?_) (fun cdv A outer s H vs Q E hr h => ?_)
  · obtain ⟨v, e, d, c, rfl, _⟩ := h
    rfl
  · obtain ⟨v, e, d, c, rfl, he, k⟩ := h
    refine ⟨_, (pss_one (ps_ret (pe_and (pe_callB call_isi (by rfl) T.n_isinstance (by decide +kernel) (pa_cons (pv 0) (pa_cons (pe_bltn (v := .ty "int") (by rfl) T.n_int (by decide +kernel) rfl) pa_nil))) (pe_one (pe_not (pe_callB call_isi (by rfl) T.n_isinstance (by decide +kernel) (pa_cons (pv 0) (pa_cons (pe_bltn (v := .ty "bool") (by rfl) T.n_bool (by decide +kernel) rfl) pa_nil)))))))), ?_⟩
    rw [isI_of] at k
    walk_at "rdh"
    refine ty_el he ?_
    walk_at "rdh"
    refine r_ite (fun i => ?_) (fun i => ?_)
    · rw [i, Bool.true_and] at k
      walk_at "rdh"
      refine ty_elb he i ?_
      walk_at "rdh"
      exact k
    · rw [i, Bool.false_and] at k
      exact k
def spAre (C : Addr) : Sp := fun vs H Q _ => ∃ (s : Addr) (u : Rat) (l h : Int), vs = [.ref s, .int l, .int h] ∧ NumAt C H s u ∧ Bd 2000 u ∧ l.natAbs < 2 ^ 2000 ∧ h.natAbs < 2 ^ 2000 ∧ Q (.bl (decide (l = u.floor ∧ h = highQ u))) H
theorem ok_are_neighbours (T : Txt w K mg) : FnOk P w K mg base CX0 1 T.f_are_neighbours T.fd_are_neighbours ["steps", "low", "high"] (spAre T.C_Number) := by
  refine T.F_are_neighbours.ok sc_are_neighbours (fun vs H Q E h => ?_) (fun cdv A outer s H vs Q E hr h => ?_)
  · obtain ⟨st, u, l, hh, rfl, _⟩ := h
    rfl
  · obtain ⟨st, u, l, h, rfl, ⟨ds, hs⟩, bu, bl, bh, k⟩ := h
    have cN := T.c_Number
    have nT := T.n_Number_top
    have nB := T.n_Number_bottom
    refine ⟨_, (pss_cons (ps_if (pt_cmpR op_eq (pe_fld (pv 0) rfl) pe_int (nomark _))
  (pss_one (ps_ret (pe_chain op_eq op_eq (pv 1) (pv 2) (pe_fld (pv 0) rfl))))
  pss_nil)
 (pss_one (ps_ret (pe_and (pe_cmpR op_eq (pv 2) (pe_op op_add (pv 1) pe_int) (nomark _)) (pe_one (pe_chain op_lt op_lt (pe_op op_mulW (pv 1) (pe_fld (pv 0) rfl)) (pe_fld (pv 0) rfl) (pe_op op_mulW (pv 2) (pe_fld (pv 0) rfl)))))))), ?_⟩
    have dd : ((u.den : Nat) : Int).natAbs < 2 ^ 2000 := bd_den bu
    have dp := u.den_pos
    walk_at "rdf"
    refine r_ite (fun e => ?_) (fun e => ?_)
    · have e1 : (u.den : Int) = 1 := of_decide_eq_true e
      have e2 := den_one.mp e1
      have e3 : highQ u = u.floor := by unfold highQ; rw [if_pos e2]
      have e4 : u.floor = u.num := by rw [Rat.floor_def, e1, Int.ediv_one]
      rw [e3, e4] at k
      walk_at "rdh"
      refine r_chain ?_
      walk_at "rdh"
      refine r_ite (fun q => ?_) (fun q => ?_)
      · have q' : l = h := of_decide_eq_true q
        subst q'
        walk_at "rdf"
        have : decide (l = u.num ∧ l = u.num) = decide (l = u.num) := by rw [decide_eq_decide]; exact and_self_iff
        rw [this] at k
        exact k
      · have q' : ¬ l = h := of_decide_eq_false q
        have : decide (l = u.num ∧ h = u.num) = false := decide_eq_false fun z => q' (z.1.trans z.2.symm)
        rw [this] at k
        exact k
    · have e2 : ¬ (partQ u).num = 0 := fun z => of_decide_eq_false e (den_one.mpr z)
      have e3 : highQ u = u.floor + 1 := by unfold highQ; rw [if_neg e2]
      obtain ⟨p0, p1, _⟩ := whole_parts e2
      rw [e3] at k
      have dpi : (0 : Int) < (u.den : Int) := by omega
      have key : (h = l + 1 ∧ l * (u.den : Int) < u.num ∧ u.num < h * (u.den : Int)) ↔ (l = u.floor ∧ h = u.floor + 1) := by
        constructor
        · rintro ⟨rfl, a, b⟩
          have c1 : l * (u.den : Int) < (u.floor + 1) * (u.den : Int) := by rw [Int.add_mul]; omega
          have c2 : u.floor * (u.den : Int) < (l + 1) * (u.den : Int) := by omega
          have d1 := Int.lt_of_mul_lt_mul_right c1 (by omega)
          have d2 := Int.lt_of_mul_lt_mul_right c2 (by omega)
          omega
        · rintro ⟨rfl, rfl⟩
          exact ⟨rfl, by omega, by rw [Int.add_mul]; omega⟩
      walk_at "rdh"
      refine r_ite (fun q => ?_) (fun q => ?_)
      · have q' : h = l + 1 := of_decide_eq_true q
        refine r_chain ?_
        walk_at "rdf"
        walk_at "rdh"
        refine r_I (wide_mul (a := 2000) (b := 2000) bl dd (by decide) (by decide) (by decide)) ?_
        walk_at "rdf"
        walk_at "rdh"
        refine r_ite (fun q2 => ?_) (fun q2 => ?_)
        · have q2' : l * (u.den : Int) < u.num := of_decide_eq_true q2
          walk_at "rdf"
          walk_at "rdh"
          refine r_I (wide_mul (a := 2000) (b := 2000) bh dd (by decide) (by decide) (by decide)) ?_
          walk_at "rdh"
          have : decide (l = u.floor ∧ h = u.floor + 1) = decide (u.num < h * (u.den : Int)) := by
            rw [decide_eq_decide, ← key]
            exact ⟨fun z => z.2.2, fun z => ⟨q', q2', z⟩⟩
          rw [this] at k
          exact k
        · have q2' : ¬ l * (u.den : Int) < u.num := of_decide_eq_false q2
          have : decide (l = u.floor ∧ h = u.floor + 1) = false := decide_eq_false fun z => q2' (key.mpr z).2.1
          rw [this] at k
          exact k
      · have q' : ¬ h = l + 1 := of_decide_eq_false q
        have : decide (l = u.floor ∧ h = u.floor + 1) = false := decide_eq_false fun z => q' (key.mpr z).1
        rw [this] at k
        exact k
/-- whether this is the paper -/
def goodTh (r : Way) (u : Rat) : Th → Bool
  | .tup es => decide (es = [.int u.floor, .int (highQ u), .int (takenQ r u)])
  | _ => false
theorem taken_two (r : Way) (u : Rat) : takenQ r u = u.floor ∨ takenQ r u = highQ u := by
  unfold takenQ highQ
  by_cases h : (partQ u).num = 0
  · rw [if_pos h]; exact .inl rfl
  · rw [if_neg h, if_neg h]
    split
    · exact .inr rfl
    · exact .inl rfl
def spHolds (C : Addr) : Sp := fun vs H Q _ => ∃ (n s d c : Addr) (x y : Rat) (r : Way) (v : V) (th : Th), vs = [.ref n, .ref s, .str (wname r), v] ∧ NumAt C H n x ∧ NumAt C H s y ∧ Bd 900 x ∧ Bd 900 y ∧ y ≠ 0 ∧ ThAt d c H v th ∧ th.fit ∧
  ∀ H' : Hp, Same H H' → Q (.bl (goodTh r (x / y) th)) H'
theorem r_tyes {σ : L2.St} {H : Hp} {A B : Hp → Prop} (q : A H) : tYes σ H (fun b H3 => if b = true then A H3 else B H3) := (iteT (A := A H) (B := B H) q : if true = true then A H else B H)
theorem ok_round_holds (T : Txt w K mg) : FnOk P w K mg base CX0 4 T.f_round_holds T.fd_round_holds ["number", "step", "way", "thing"] (spHolds T.C_Number) := by
  refine T.F_round_holds.ok sc_round_holds (fun vs H Q E h => ?_) (fun cdv A outer s H vs Q E hr h => ?_)
  · obtain ⟨n, st, d, c, x, y, r, v, th, rfl, _⟩ := h
    rfl
  · obtain ⟨n, st, d, c, x, y, r, v, th, rfl, hn, hs, bx, by', y0, hth, fit, k⟩ := h
    refine ⟨_, (pss_cons (ps_if (PW.pt (pw_or (pt_not (pt_val (pe_callB call_isi (by rfl) T.n_isinstance (by decide +kernel) (pa_cons (pv 3) (pa_cons (pe_bltn (v := .ty "tuple") (by rfl) T.n_tuple (by decide +kernel) rfl) pa_nil))))) (pw_or (pt_cmpR op_ne (pe_callB call_len_seq (by rfl) T.n_len PySem.boot_len (pa_cons (pv 3) pa_nil)) pe_int (nomark _)) (pw_or1 (pt_not (pt_val (pe_callB (cr_all rfl) (by rfl) T.n_all (by decide +kernel) (pa_cons (pe_lc (own := [("part", 8)]) (g := gName 8) (tt := tYes) rfl sc_round_holds.nd (pi_tup (pv 3)) (blkOk_by (own := [("part", 8)]) (N := ["number", "step", "way", "thing", "low", "high", "taken", "steps", "part"]) (sc := defScope s_round_holds) (by decide +kernel)) (fun _ _ _ _ _ => pg_name (i := 8) sc_round_holds.nd rfl (Or.inl rfl)) (fun _ _ _ _ _ => pts_nil) (fun _ _ _ _ _ => (pe_call (ok_is_whole T) (hr.mono (by decide)) (by rfl) T.m_is_whole T.F_is_whole.kp T.b_is_whole .nil pass0 (pa_cons (pv 8) pa_nil)))) pa_nil))))))))
  (pss_one (ps_ret pe_bl))
  pss_nil)
 (pss_cons (ps_asg (pv 3) (pg_tup rfl (pgs_cons (pg_name (i := 4) sc_round_holds.nd rfl (Or.inl rfl)) (pgs_cons (pg_name (i := 5) sc_round_holds.nd rfl (Or.inl rfl)) (pgs_cons (pg_name (i := 6) sc_round_holds.nd rfl (Or.inl rfl)) pgs_nil)))))
 (pss_cons (ps_set (i := 7) sc_round_holds.nd rfl (Or.inl rfl) (pe_meth (pv 0) T.c_Number T.me_Number_over (ok_Number_over T) (hr.mono (by decide)) T.b_Number_over .nil pass0 (pa_cons (pv 1) pa_nil)))
 (pss_cons (ps_if (pt_not (pt_val (pe_call (ok_are_neighbours T) (hr.mono (by decide)) (by rfl) T.m_are_neighbours T.F_are_neighbours.kp T.b_are_neighbours .nil pass0 (pa_cons (pv 7) (pa_cons (pv 4) (pa_cons (pv 5) pa_nil))))))
  (pss_one (ps_ret pe_bl))
  pss_nil)
 (pss_cons (ps_if (pt_cmpR op_eq (pv 6) (pv 4) (nomark _))
  (pss_one (ps_ret (pe_or (pe_cmpR op_eq (pv 4) (pv 5) (nomark _)) (pe_one (pe_call (ok_goes_to T) (hr.mono (by decide)) (by rfl) T.m_goes_to T.F_goes_to.kp T.b_goes_to .nil pass0 (pa_cons (pv 7) (pa_cons (pv 2) (pa_cons (pv 4) (pa_cons (pv 5) pa_nil)))))))))
  pss_nil)
 (pss_one (ps_ret (pe_and (pe_cmpR op_eq (pv 6) (pv 5) (nomark _)) (pe_one (pe_call (ok_goes_to T) (hr.mono (by decide)) (by rfl) T.m_goes_to T.F_goes_to.kp T.b_goes_to .nil pass0 (pa_cons (pv 7) (pa_cons (pv 2) (pa_cons (pv 5) (pa_cons (pv 4) pa_nil)))))))))))))), ?_⟩
    have bu := Bd.div bx by' y0
    walk_at "rdh"
    refine ty_th hth ?_
    walk_at "rdh"
    by_cases it : th.isTup = true
    case neg =>
      have g : goodTh r (x / y) th = false := by cases th <;> first | rfl | exact absurd rfl it
      have it' : th.isTup = false := by simpa using it
      rw [it']
      refine r_iteT rfl ?_
      refine r_iteT rfl ?_
      have := k H (Same.refl _)
      rw [g] at this
      exact this
    obtain ⟨es, rfl⟩ : ∃ es, th = .tup es := by cases th <;> first | exact ⟨_, rfl⟩ | cases it
    obtain ⟨p, vs, rfl, hp, hes⟩ := hth
    obtain ⟨n4, n1, small⟩ := fit
    have hlen := hes.len
    refine r_iteF rfl ?_
    walk_at "rdh"
    refine ⟨p, _, rfl, .inr (SqT.of hp), ?_⟩
    walk_at "rdh"
    refine r_ite (fun e => ?_) (fun e => ?_)
    · have e3 : vs.length ≠ 3 := by
        intro z
        rw [z] at e
        simp at e
      have g : goodTh r (x / y) (.tup es) = false := decide_eq_false fun z => e3 (by rw [hlen, z]; rfl)
      refine r_iteT rfl ?_
      have := k H (Same.refl _)
      rw [g] at this
      exact this
    have e3 : vs.length = 3 := by
      have : (!decide ((vs.length : Int) = 3)) = false := e
      have z : (vs.length : Int) = 3 := by simpa using this
      omega
    obtain ⟨v0, v1, v2, e0, e1, e2, rfl, rfl, h0, h1, h2⟩ : ∃ v0 v1 v2 e0 e1 e2, vs = [v0, v1, v2] ∧ es = [e0, e1, e2] ∧ ElAt d c H v0 e0 ∧ ElAt d c H v1 e1 ∧ ElAt d c H v2 e2 := by
      cases hes with
      | nil => cases e3
      | cons a t =>
        cases t with
        | nil => cases e3
        | cons b t =>
          cases t with
          | nil => cases e3
          | cons cc t =>
            cases t with
            | nil => exact ⟨_, _, _, _, _, _, rfl, rfl, a, b, cc⟩
            | cons dd t =>
              simp at e3
    walk_at "rdh"
    refine r_lcT ?_
    walk_at "rdh"
    refine ⟨p, rfl, ⟨_, SqT.of hp⟩, fun D hD => lc_tup (K := K) (a := p) (xs := [v0, v1, v2]) (fun j H' => Same H H' ∧ H' D = some (.lst ((([e0.isI, e1.isI, e2.isI]).take j).map V.bl)) ∧ j ≤ 3)
      ⟨Same.new hD, upd_same, by decide⟩ (fun j H' _ ⟨s, _⟩ => SqT.of (s _ _ hp)) ?_ ?_⟩
    · rintro j z H1 hz ⟨s1, hD1, hj⟩
      obtain ⟨ez, hez, jl, tk⟩ : ∃ ez, ElAt d c H z ez ∧ j < 3 ∧ (([e0.isI, e1.isI, e2.isI]).take j).map V.bl ++ [V.bl ez.isI] = (([e0.isI, e1.isI, e2.isI]).take (j + 1)).map V.bl := by
        rcases j with _ | _ | _ | j
        · obtain rfl := Option.some.inj hz
          exact ⟨e0, h0, by decide, rfl⟩
        · obtain rfl := Option.some.inj hz
          exact ⟨e1, h1, by decide, rfl⟩
        · obtain rfl := Option.some.inj hz
          exact ⟨e2, h2, by decide, rfl⟩
        · cases hz
      walk_at "rdh"
      refine ⟨rfl, ?_⟩
      refine r_tyes ?_
      walk_at "rdh"
      refine ⟨z, ez, d, c, rfl, hez.same s1, ?_⟩
      refine ⟨_, hD1, by rw [List.length_map, List.length_take]; exact Nat.lt_of_le_of_lt (Nat.min_le_left _ _) (Nat.lt_trans jl (by decide)), ?_, ?_, by omega⟩
      · intro b o hb
        rw [upd_ne (ne_of_none hb hD)]
        exact s1 _ _ hb
      · rw [upd_same, tk]
    · rintro H1 ⟨s1, hD1, _⟩
      have hp1 := s1 _ _ hp
      walk_at "rdh"
      refine ⟨D, [e0.isI, e1.isI, e2.isI], rfl, SqL.of hD1, ?_⟩
      walk_at "rdh"
      refine r_ite (fun q => ?_) (fun q => ?_)
      · have na : ¬ (e0.isI = true ∧ e1.isI = true ∧ e2.isI = true) := fun ⟨a, b, cc⟩ => by
          rw [a, b, cc] at q
          simp at q
        have g : goodTh r (x / y) (.tup [e0, e1, e2]) = false := decide_eq_false fun z => na (by
          injection z with z0 z
          injection z with z1 z
          injection z with z2 z
          rw [z0, z1, z2]
          exact ⟨rfl, rfl, rfl⟩)
        have := k H1 s1
        rw [g] at this
        exact this
      have ya : e0.isI = true ∧ e1.isI = true ∧ e2.isI = true := by
        refine Classical.byContradiction fun z => ?_
        have : ([e0.isI, e1.isI, e2.isI].all id) = false := by
          cases a : e0.isI <;> cases b : e1.isI <;> cases cc : e2.isI <;> first | rfl | exact absurd ⟨a, b, cc⟩ z
        simp [this] at q
      obtain ⟨i0, i1, i2⟩ := ya
      obtain ⟨l, rfl⟩ : ∃ l, e0 = .int l := by cases e0 <;> first | exact ⟨_, rfl⟩ | cases i0
      obtain ⟨h, rfl⟩ : ∃ l, e1 = .int l := by cases e1 <;> first | exact ⟨_, rfl⟩ | cases i1
      obtain ⟨t, rfl⟩ : ∃ l, e2 = .int l := by cases e2 <;> first | exact ⟨_, rfl⟩ | cases i2
      obtain rfl : v0 = .int l := h0
      obtain rfl : v1 = .int h := h1
      obtain rfl : v2 = .int t := h2
      have bl : l.natAbs < 2 ^ 300 := small (.int l) (by simp)
      have bh : h.natAbs < 2 ^ 300 := small (.int h) (by simp)
      have bt : t.natAbs < 2 ^ 300 := small (.int t) (by simp)
      have up : ∀ {z : Int} {m : Nat}, z.natAbs < 2 ^ 300 → 300 ≤ m → z.natAbs < 2 ^ m := fun a b => Nat.lt_of_lt_of_le a (Nat.pow_le_pow_right (by decide) b)
      obtain ⟨dn, en⟩ := hn.same s1
      walk_at "rdh"
      refine r_gTup hp1 rfl ?_
      walk_at "rdh"
      refine r_meth1 en (no_over _) ?_
      walk_at "rdh"
      refine ⟨n, st, x, y, rfl, ⟨_, en⟩, hs.same s1, bx.mono (by decide), by'.mono (by decide), y0, fun q2 H2 s2 _ h2' => ?_⟩
      have s12 := s1.trans s2
      have k' := k _ s12
      walk_at "rdh"
      refine ⟨q2, _, l, h, rfl, h2', bu.mono (by decide), up bl (by decide), up bh (by decide), ?_⟩
      walk_at "rdh"
      refine r_ite (fun e => ?_) (fun e => ?_)
      · have ne : ¬ (l = (x / y).floor ∧ h = highQ (x / y)) := by
          intro z
          rw [decide_eq_true z] at e
          cases e
        have g : goodTh r (x / y) (.tup [.int l, .int h, .int t]) = false := decide_eq_false fun z => ne (by
          injection z with z0 z
          injection z with z1 z
          injection z0 with z0
          injection z1 with z1
          exact ⟨z0, z1⟩)
        rw [g] at k'
        exact k'
      have yes : l = (x / y).floor ∧ h = highQ (x / y) := by simpa using e
      obtain ⟨rfl, rfl⟩ := yes
      have g : goodTh r (x / y) (.tup [.int (x / y).floor, .int (highQ (x / y)), .int t]) = decide (takenQ r (x / y) = t) := by
        show decide _ = decide _
        rw [decide_eq_decide]
        constructor
        · intro z
          injection z with _ z
          injection z with _ z
          injection z with z _
          injection z with z
          exact z.symm
        · intro z
          rw [z]
      rw [g] at k'
      have f2 : (x / y).floor.natAbs < 2 ^ 2002 := up bl (by decide)
      have h2u : (highQ (x / y)).natAbs < 2 ^ 2002 := up bh (by decide)
      have t2 : t.natAbs < 2 ^ 2002 := up bt (by decide)
      by_cases e : (partQ (x / y)).num = 0
      · have e3 : highQ (x / y) = (x / y).floor := by unfold highQ; rw [if_pos e]
        have e4 : takenQ r (x / y) = (x / y).floor := by unfold takenQ; rw [if_pos e]
        rw [e4] at k'
        walk_at "rdh"
        refine r_ite (fun e5 => ?_) (fun e5 => ?_)
        · have ev : t = (x / y).floor := of_decide_eq_true e5
          rw [decide_eq_true ev.symm] at k'
          walk_at "rdh"
          refine r_iteT (decide_eq_true e3.symm) ?_
          exact k'
        · have ev : ¬ t = (x / y).floor := of_decide_eq_false e5
          rw [decide_eq_false (fun z => ev z.symm)] at k'
          walk_at "rdh"
          refine r_iteF (decide_eq_false (by rw [e3]; exact ev)) ?_
          exact k'
      · have e3 : highQ (x / y) = (x / y).floor + 1 := by unfold highQ; rw [if_neg e]
        obtain ⟨g1, g2⟩ := goes_low (r := r) e
        have two := taken_two r (x / y)
        rw [e3] at h2u two
        rw [e3]
        walk_at "rdh"
        refine r_ite (fun e5 => ?_) (fun e5 => ?_)
        · have ev : t = (x / y).floor := of_decide_eq_true e5
          walk_at "rdh"
          refine r_iteF (decide_eq_false (by omega)) ?_
          walk_at "rdh"
          refine ⟨q2, _, r, _, _, rfl, h2', bu.mono (by decide), f2, h2u, ?_⟩
          rw [g1]
          rw [ev] at k'
          exact k'
        · have ev : ¬ t = (x / y).floor := of_decide_eq_false e5
          walk_at "rdh"
          refine r_ite (fun e6 => ?_) (fun e6 => ?_)
          · have ev2 : t = (x / y).floor + 1 := of_decide_eq_true e6
            walk_at "rdh"
            refine ⟨q2, _, r, _, _, rfl, h2', bu.mono (by decide), h2u, f2, ?_⟩
            rw [g2]
            rw [ev2] at k'
            exact k'
          · have ev2 : ¬ t = (x / y).floor + 1 := of_decide_eq_false e6
            rw [decide_eq_false (by omega)] at k'
            exact k'
end
end My

namespace My
open PySem L2
/-! ### tuples cut and joined -/
def TupAt (d c : Addr) (H : Hp) (p : Addr) (es : List El) : Prop := ∃ vs, H p = some (.tup vs) ∧ ElsAt d c H vs es
theorem TupAt.off {d c : Addr} {H H' : Hp} {p : Addr} {es : List El} (o : Off d c H H') (dk : DeckAt H d c) (h : TupAt d c H p es) : TupAt d c H' p es := by
  obtain ⟨vs, hp, he⟩ := h
  exact ⟨vs, o.keep dk hp (fun _ z => by cases z), he.off o dk⟩
theorem TupAt.same {d c : Addr} {H H' : Hp} {p : Addr} {es : List El} (s : Same H H') (h : TupAt d c H p es) : TupAt d c H' p es := by
  obtain ⟨vs, hp, he⟩ := h
  exact ⟨vs, s _ _ hp, he.same s⟩
theorem ElsAt.take {d c : Addr} {H : Hp} {vs : List V} {es : List El} (h : ElsAt d c H vs es) : ∀ n, ElsAt d c H (vs.take n) (es.take n) := by
  induction h with
  | nil => intro n; rw [List.take_nil, List.take_nil]; exact .nil
  | cons h1 _ ih =>
    intro n
    cases n with
    | zero => exact .nil
    | succ n => exact .cons h1 (ih n)
theorem ElsAt.drop {d c : Addr} {H : Hp} {vs : List V} {es : List El} (h : ElsAt d c H vs es) : ∀ n, ElsAt d c H (vs.drop n) (es.drop n) := by
  induction h with
  | nil => intro n; rw [List.drop_nil, List.drop_nil]; exact .nil
  | cons h1 t ih =>
    intro n
    cases n with
    | zero => exact .cons h1 t
    | succ n => exact ih n
theorem ElsAt.append {d c : Addr} {H : Hp} {vs ws : List V} {es fs : List El} (h : ElsAt d c H vs es) (g : ElsAt d c H ws fs) : ElsAt d c H (vs ++ ws) (es ++ fs) := by
  induction h with
  | nil => exact g
  | cons h1 _ ih => exact .cons h1 ih
theorem ElsAt.get {d c : Addr} {H : Hp} {vs : List V} {es : List El} (h : ElsAt d c H vs es) : ∀ {i : Nat} {v : V}, vs[i]? = some v → ∃ e, es[i]? = some e ∧ ElAt d c H v e := by
  induction h with
  | nil => intro i v z; cases z
  | cons h1 _ ih =>
    intro i v z
    cases i with
    | zero =>
      obtain rfl := Option.some.inj z
      exact ⟨_, rfl, h1⟩
    | succ i => exact ih z
theorem cut_to {xs : List V} {n : Nat} : cutV xs none (some (n : Int)) = xs.take n := by
  unfold cutV
  rw [HT.sIx_none, HT.sIx_nat, List.drop_zero, Nat.sub_zero]
  by_cases h : n ≤ xs.length
  · rw [Nat.min_eq_left h]
  · rw [Nat.min_eq_right (by omega), List.take_of_length_le (Nat.le_refl _), List.take_of_length_le (by omega)]
theorem cut_from {xs : List V} {n : Nat} : cutV xs (some (n : Int)) none = xs.drop n := by
  unfold cutV
  rw [HT.sIx_none, HT.sIx_nat]
  by_cases h : n ≤ xs.length
  · rw [Nat.min_eq_left h, List.take_of_length_le (by rw [List.length_drop]; exact Nat.le_refl _)]
  · rw [Nat.min_eq_right (by omega), List.drop_eq_nil_of_le (Nat.le_refl _), List.drop_eq_nil_of_le (by omega : xs.length ≤ n), List.take_nil]
theorem cut_whole {xs : List V} {lo hi : Option Int} (h : HT.sIx xs.length 0 lo = 0 ∧ HT.sIx xs.length xs.length hi = xs.length) : cutV xs lo hi = xs := by
  unfold cutV
  rw [h.1, h.2, List.drop_zero, Nat.sub_zero, List.take_of_length_le (Nat.le_refl _)]
theorem r_cutT {K : PySem.W.Frag} {H : Hp} {a : Addr} {xs : List V} {lo hi : Option Int} {Q : VK} (h : H a = some (.tup xs)) (q : ∀ (b : Addr) (H' : Hp), Same H H' → H' b = some (.tup (cutV xs lo hi)) → Q (.ref b) H') : rSlA K (.ref a) lo hi H Q :=
  ⟨a, xs, rfl, SqT.of h, fun z => q a H (Same.refl _) (by rw [cut_whole z]; exact h), fun _ p hp => q p _ (Same.new hp) upd_same⟩
theorem sl_to {d c : Addr} {K : PySem.W.Frag} {H : Hp} {a : Addr} {es : List El} {n : Nat} {i : Int} {Q : VK} (h : TupAt d c H a es) (e : i = (n : Int)) (q : ∀ (b : Addr) (H' : Hp), Same H H' → TupAt d c H' b (es.take n) → Q (.ref b) H') : rSlA K (.ref a) none (some i) H Q := by
  obtain ⟨vs, hp, he⟩ := h
  subst e
  refine r_cutT hp fun b H' s hb => q b H' s ⟨_, hb, ?_⟩
  rw [cut_to]
  exact (he.same s).take n
theorem sl_from {d c : Addr} {K : PySem.W.Frag} {H : Hp} {a : Addr} {es : List El} {n : Nat} {i : Int} {Q : VK} (h : TupAt d c H a es) (e : i = (n : Int)) (q : ∀ (b : Addr) (H' : Hp), Same H H' → TupAt d c H' b (es.drop n) → Q (.ref b) H') : rSlA K (.ref a) (some i) none H Q := by
  obtain ⟨vs, hp, he⟩ := h
  subst e
  refine r_cutT hp fun b H' s hb => q b H' s ⟨_, hb, ?_⟩
  rw [cut_from]
  exact (he.same s).drop n
theorem cat_t {d c : Addr} {K : PySem.W.Frag} {H : Hp} {a b : Addr} {es fs : List El} {Q : VK} (ha : TupAt d c H a es) (hb : TupAt d c H b fs) (n : es.length + fs.length ≤ 100) (q : ∀ (x : Addr) (H' : Hp), Same H H' → TupAt d c H' x (es ++ fs) → Q (.ref x) H') : rCatA K (.ref a) (.ref b) H Q := by
  obtain ⟨xs, h1, he⟩ := ha
  obtain ⟨ys, h2, hf⟩ := hb
  have l1 := he.len
  have l2 := hf.len
  have hap := he.append hf
  refine ⟨a, b, xs, ys, rfl, rfl, SqT.of h1, SqT.of h2, Nat.le_trans (by omega : xs.length + ys.length ≤ 100) (by decide), fun z => ?_, fun _ z => ?_, fun _ _ p hp => q p _ (Same.new hp) ⟨_, upd_same, hap.same (Same.new hp)⟩⟩
  · subst z
    exact q b H (Same.refl _) ⟨_, h2, hap⟩
  · subst z
    rw [List.append_nil] at hap
    exact q a H (Same.refl _) ⟨_, h1, hap⟩
end My

namespace My
open PySem L2
section
variable {P : Program} {w : World} {K : PySem.W.Frag} {mg : Str → Option Value} {base : Heap}
theorem three_at {l h t : Int} {b : Nat} {r : Int} (r0 : 0 ≤ r) (r1 : r < 3) (hl : l.natAbs < b) (hh : h.natAbs < b) (ht : t.natAbs < b) : ∃ (n : Nat) (z : Int), r = (n : Int) ∧ n < 3 ∧ [V.int l, .int h, .int t][n]? = some (.int z) ∧ z.natAbs < b := by
  obtain ⟨n, rfl⟩ := Int.eq_ofNat_of_zero_le r0
  have n3 : n < 3 := by omega
  match n, n3 with
  | 0, _ => exact ⟨0, l, rfl, by decide, rfl, hl⟩
  | 1, _ => exact ⟨1, h, rfl, by decide, rfl, hh⟩
  | 2, _ => exact ⟨2, t, rfl, by decide, rfl, ht⟩
theorem r_rev3 {K : PySem.W.Frag} {te : TE} {σ : L2.St} {H : Hp} {Q : VK} (q : te σ H fun x H1 => ∃ a v0 v1 v2, x = .ref a ∧ SqT K H1 a [v0, v1, v2] ∧ ∀ p, H1 p = none → Q (.ref p) (upd H1 p (.tup [v2, v1, v0]))) : tRev3 K te σ H Q := q
def someE (z : Int) : List El := [.int (z + 1), .int (z - 1), .int (z + 2), .int (0 - z), .bool (decide (z = 1)), .str z, .non, .int (10 ^ Int.toNat 39), .tup z, .lst z, .int (z + 10 ^ Int.toNat 30)]
theorem some_small {z : Int} (bz : z.natAbs < 2 ^ 290) : ∀ e ∈ someE z, e.small := by
  have e39 : (10 : Int) ^ Int.toNat 39 = 1000000000000000000000000000000000000000 := rfl
  have e30 : (10 : Int) ^ Int.toNat 30 = 1000000000000000000000000000000 := rfl
  intro e he
  unfold someE at he
  rw [e39, e30] at he
  simp only [List.mem_cons, List.not_mem_nil, or_false] at he
  rcases he with rfl | rfl | rfl | rfl | rfl | rfl | rfl | rfl | rfl | rfl | rfl
  all_goals first | exact trivial | (show Int.natAbs _ < 2 ^ 300; omega)
theorem some_at {d c : Addr} {H : Hp} {vs : List V} {es : List El} {i : Int} (els : ElsAt d c H vs es) (i0 : 0 ≤ i) (i1 : i < (es.length : Int)) : ∃ v e, atI vs i = some v ∧ e ∈ es ∧ ElAt d c H v e := by
  obtain ⟨v, av, _⟩ := atI_mem (xs := vs) i0 (by rw [els.len]; exact i1)
  obtain ⟨n, rfl⟩ := Int.eq_ofNat_of_zero_le i0
  have hn : n < vs.length := by have := els.len; omega
  have av' : vs[n]? = some vs[n] := List.getElem?_eq_getElem hn
  obtain ⟨e, he, at'⟩ := els.get av'
  exact ⟨vs[n], e, atI_nat av', List.mem_of_getElem? he, at'⟩
def trio (l h t : Int) : List El := [.int l, .int h, .int t]
theorem trio_small {l h t : Int} (hl : l.natAbs < 2 ^ 290) (hh : h.natAbs < 2 ^ 290) (ht : t.natAbs < 2 ^ 290) : ∀ e ∈ trio l h t, e.small := by
  intro e he
  unfold trio at he
  simp only [List.mem_cons, List.not_mem_nil, or_false] at he
  have le : (2 : Nat) ^ 290 ≤ 2 ^ 300 := by decide
  rcases he with rfl | rfl | rfl
  · exact Nat.lt_of_lt_of_le hl le
  · exact Nat.lt_of_lt_of_le hh le
  · exact Nat.lt_of_lt_of_le ht le
theorem fit_of {es : List El} (n : es.length ≤ 4) (n1 : es.length ≠ 1) (h : ∀ e ∈ es, e.small) : (Th.tup es).fit := ⟨n, n1, h⟩
theorem fit_bent {l h t : Int} {e : El} {n : Nat} (n3 : n < 3) (h3 : ∀ e ∈ trio l h t, e.small) (he : e.small) : (Th.tup ((trio l h t).take n ++ [e] ++ (trio l h t).drop (n + 1))).fit := by
  have len : (trio l h t).length = 3 := rfl
  refine fit_of ?_ ?_ ?_
  · simp only [List.length_append, List.length_take, List.length_drop, List.length_cons, List.length_nil, len]; omega
  · simp only [List.length_append, List.length_take, List.length_drop, List.length_cons, List.length_nil, len]; omega
  · intro x hx
    rcases List.mem_append.mp hx with hx | hx
    · rcases List.mem_append.mp hx with hx | hx
      · exact h3 x (List.mem_of_mem_take hx)
      · obtain rfl := List.mem_singleton.mp hx
        exact he
    · exact h3 x (List.mem_of_mem_drop hx)
theorem fit_two {l h t : Int} {n m : Nat} (n3 : min n 3 + (3 - m) ≤ 4) (n1 : min n 3 + (3 - m) ≠ 1) (h3 : ∀ e ∈ trio l h t, e.small) : (Th.tup ((trio l h t).take n ++ (trio l h t).drop m)).fit := by
  have len : (trio l h t).length = 3 := rfl
  refine fit_of ?_ ?_ ?_
  · simp only [List.length_append, List.length_take, List.length_drop, len]; omega
  · simp only [List.length_append, List.length_take, List.length_drop, len]; omega
  · intro x hx
    rcases List.mem_append.mp hx with hx | hx
    · exact h3 x (List.mem_of_mem_take hx)
    · exact h3 x (List.mem_of_mem_drop hx)
def spOther : Sp := fun vs H Q _ => ∃ (d c p : Addr) (l h t : Int), vs = [.ref d, .ref p] ∧ DeckAt H d c ∧ H p = some (.tup [.int l, .int h, .int t]) ∧ l.natAbs < 2 ^ 290 ∧ h.natAbs < 2 ^ 290 ∧ t.natAbs < 2 ^ 290 ∧
  ∀ (v : V) (th : Th) (H' : Hp), Off d c H H' → DeckAt H' d c → ThAt d c H' v th → th.fit → Q v H'
theorem ok_l_other (T : Txt w K mg) : FnOk P w K mg base CX0 2 T.f_l_other T.fd_l_other ["_law_deck_here", "_law_thing"] spOther := by
  refine T.F_l_other.ok sc_l_other (fun vs H Q E h => ?_) (fun cdv A outer s H vs Q E hr h => ?_)
  · obtain ⟨d, c, p, l, h, t, rfl, _⟩ := h
    rfl
  · obtain ⟨d, c, p, l, h, t, rfl, dk, hp, hl, hh, ht, k⟩ := h
    refine ⟨_, (pss_cons (ps_set (i := 2) sc_l_other.nd rfl (Or.inl rfl) (pe_call (ok_l_draw T) (hr.mono (by decide)) (by rfl) T.m_l_draw T.F_l_draw.kp T.b_l_draw .nil pass0 (pa_cons (pv 0) (pa_cons pe_int pa_nil))))
 (pss_cons (ps_set (i := 3) sc_l_other.nd rfl (Or.inl rfl) (pe_call (ok_l_draw T) (hr.mono (by decide)) (by rfl) T.m_l_draw T.F_l_draw.kp T.b_l_draw .nil pass0 (pa_cons (pv 0) (pa_cons pe_int pa_nil))))
 (pss_cons (ps_set (i := 4) sc_l_other.nd rfl (Or.inl rfl) (pe_ix ix_tup (pv 1) (pv 3) (fun _ _ => rfl)))
 (pss_cons (ps_set (i := 5) sc_l_other.nd rfl (Or.inl rfl) (pe_lst (pa_cons (pe_op op_add (pv 4) pe_int) (pa_cons (pe_op op_sub (pv 4) pe_int) (pa_cons (pe_op op_add (pv 4) pe_int) (pa_cons (pe_op op_sub pe_int (pv 4)) (pa_cons (pe_cmpR op_eq (pv 4) pe_int (nomark _)) (pa_cons (pe_callTy call_str_int (by rfl) T.n_str (by decide +kernel) (pa_cons (pv 4) pa_nil)) (pa_cons pe_non (pa_cons (pe_op op_pow pe_int pe_int) (pa_cons (pe_tup (pa_cons (pv 4) pa_nil)) (pa_cons (pe_lst (pa_cons (pv 4) pa_nil)) (pa_cons (pe_op op_add (pv 4) (pe_op op_pow pe_int pe_int)) pa_nil)))))))))))))
 (pss_cons (ps_if (pt_cmpR op_lt (pv 2) pe_int (nomark _))
  (pss_one (ps_ret (pe_op op_catA (pe_op op_catA (pe_slice sl_tupA (pv 1) po_none (po_some (pv 3))) (pe_tup (pa_cons (pe_ix ix_list (pv 5) (pe_op op_add (pe_op op_mod (pv 2) pe_int) (pe_op op_mul pe_int (pe_callTy call_int1 (by rfl) T.n_int (by decide +kernel) (pa_cons (pe_cmpR op_eq (pv 2) pe_int (nomark _)) pa_nil)))) (fun _ _ => rfl)) pa_nil))) (pe_slice sl_tupA (pv 1) (po_some (pe_op op_add (pv 3) pe_int)) po_none))))
  pss_nil)
 (pss_cons (ps_set (i := 6) sc_l_other.nd rfl (Or.inl rfl) (pe_lst (pa_cons (pe_op op_catA (pe_slice sl_tupA (pv 1) po_none (po_some (pv 3))) (pe_slice sl_tupA (pv 1) (po_some (pe_op op_add (pv 3) pe_int)) po_none)) (pa_cons (pe_op op_catA (pe_slice sl_tupA (pv 1) po_none (po_some (pe_op op_add (pv 3) pe_int))) (pe_slice sl_tupA (pv 1) (po_some (pv 3)) po_none)) (pa_cons (pe_rev3 (pv 1)) (pa_cons (pe_callTy call_list_of (by rfl) T.n_list (by decide +kernel) (pa_cons (pv 1) pa_nil)) (pa_cons (pe_op op_catA (pe_slice sl_tupA (pv 1) (po_some pe_int) po_none) (pe_slice sl_tupA (pv 1) po_none (po_some pe_int))) pa_nil)))))))
 (pss_cons (ps_if (pt_cmpR op_lt (pv 2) pe_int (nomark _))
  (pss_one (ps_ret (pe_ix ix_list (pv 6) (pe_op op_sub (pv 2) pe_int) (fun _ _ => rfl))))
  pss_nil)
 (pss_one (ps_ret (pe_op op_catA (pe_op op_catA (pe_slice sl_tupA (pv 1) po_none (po_some (pv 3))) (pe_tup (pa_cons (pe_ix ix_list (pv 5) (pe_call (ok_l_draw T) (hr.mono (by decide)) (by rfl) T.m_l_draw T.F_l_draw.kp T.b_l_draw .nil pass0 (pa_cons (pv 0) (pa_cons pe_int pa_nil))) (fun _ _ => rfl)) pa_nil))) (pe_slice sl_tupA (pv 1) (po_some (pe_op op_add (pv 3) pe_int)) po_none))))))))))), ?_⟩
    walk_at "rdh"
    refine rd_draw dk (by decide) (by decide) fun how H1 o1 dk1 w0 w1 => ?_
    walk_at "rdh"
    refine rd_draw dk1 (by decide) (by decide) fun at' H2 o2 dk2 a0 a1 => ?_
    have o12 := o1.trans o2
    have hp2 := o12.keep dk hp (fun _ z => by cases z)
    obtain ⟨n, z, rfl, n3, hz, bz⟩ := three_at a0 a1 hl hh ht
    walk_at "rdh"
    refine r_ixT hp2 (atI_nat hz) ?_
    walk_at "rdh"
    refine ⟨z, rfl, Nat.lt_of_lt_of_le (int300 (Nat.lt_of_lt_of_le bz (by decide))) (by decide), ?_⟩
    walk_at "rdh"
    refine r_new (by show 1 ≤ 1000; decide) fun q1 hq1 => ?_
    have s1 := Same.new (o := .tup [.int z]) hq1
    walk_at "rdh"
    refine r_new (by show 1 ≤ 1000; decide) fun q2 hq2 => ?_
    obtain ⟨q2d, q2c⟩ := fresh_ne (dk2.same s1) hq2
    have s2 := Same.new (o := .lst [.int z]) hq2
    walk_at "rdh"
    refine r_new (by show 11 ≤ 1000; decide) fun q3 hq3 => ?_
    have s3 := Same.new (o := .lst [V.int (z + 1), V.int (z - 1), V.int (z + 2), V.int (0 - z), V.bl (decide (z = 1)), V.str (TI z), V.non, V.int (10 ^ Int.toNat 39), V.ref q1, V.ref q2, V.int (z + 10 ^ Int.toNat 30)]) hq3
    obtain ⟨q3d, q3c⟩ := fresh_ne ((dk2.same s1).same s2) hq3
    have s23 := (s1.trans s2).trans s3
    have hS : (upd (upd (upd H2 q1 (.tup [.int z])) q2 (.lst [.int z])) q3 (.lst [V.int (z + 1), V.int (z - 1), V.int (z + 2), V.int (0 - z), V.bl (decide (z = 1)), V.str (TI z), V.non, V.int (10 ^ Int.toNat 39), V.ref q1, V.ref q2, V.int (z + 10 ^ Int.toNat 30)])) q3 = some (.lst [V.int (z + 1), V.int (z - 1), V.int (z + 2), V.int (0 - z), V.bl (decide (z = 1)), V.str (TI z), V.non, V.int (10 ^ Int.toNat 39), V.ref q1, V.ref q2, V.int (z + 10 ^ Int.toNat 30)]) := upd_same
    have els : ElsAt d c (upd (upd (upd H2 q1 (.tup [.int z])) q2 (.lst [.int z])) q3 (.lst [V.int (z + 1), V.int (z - 1), V.int (z + 2), V.int (0 - z), V.bl (decide (z = 1)), V.str (TI z), V.non, V.int (10 ^ Int.toNat 39), V.ref q1, V.ref q2, V.int (z + 10 ^ Int.toNat 30)])) [V.int (z + 1), V.int (z - 1), V.int (z + 2), V.int (0 - z), V.bl (decide (z = 1)), V.str (TI z), V.non, V.int (10 ^ Int.toNat 39), V.ref q1, V.ref q2, V.int (z + 10 ^ Int.toNat 30)] (someE z) :=
      .cons rfl (.cons rfl (.cons rfl (.cons rfl (.cons rfl (.cons rfl (.cons rfl (.cons rfl (.cons ⟨q1, rfl, (s2.trans s3) _ _ upd_same⟩ (.cons ⟨q2, rfl, q2d, q2c, s3 _ _ upd_same⟩ (.cons rfl .nil))))))))))
    have hs3 := trio_small hl hh ht
    have ss := some_small bz
    have l3 : (trio l h t).length = 3 := rfl
    have o13 := o12.trans (Off.of (d := d) (c := c) s23)
    have dk3 := dk2.same s23
    have tp : TupAt d c (upd (upd (upd H2 q1 (.tup [.int z])) q2 (.lst [.int z])) q3 (.lst [V.int (z + 1), V.int (z - 1), V.int (z + 2), V.int (0 - z), V.bl (decide (z = 1)), V.str (TI z), V.non, V.int (10 ^ Int.toNat 39), V.ref q1, V.ref q2, V.int (z + 10 ^ Int.toNat 30)])) p (trio l h t) := ⟨_, s23 _ _ hp2, .cons rfl (.cons rfl (.cons rfl .nil))⟩
    have hp3 := s23 _ _ hp2
    show gName 5 (V.ref q3) _ (upd (upd (upd H2 q1 (.tup [.int z])) q2 (.lst [.int z])) q3 (.lst [V.int (z + 1), V.int (z - 1), V.int (z + 2), V.int (0 - z), V.bl (decide (z = 1)), V.str (TI z), V.non, V.int (10 ^ Int.toNat 39), V.ref q1, V.ref q2, V.int (z + 10 ^ Int.toNat 30)])) _
    generalize upd (upd (upd H2 q1 (.tup [.int z])) q2 (.lst [.int z])) q3 (.lst [V.int (z + 1), V.int (z - 1), V.int (z + 2), V.int (0 - z), V.bl (decide (z = 1)), V.str (TI z), V.non, V.int (10 ^ Int.toNat 39), V.ref q1, V.ref q2, V.int (z + 10 ^ Int.toNat 30)]) = H3 at *
    walk_at "rdh"
    refine r_ite (fun e => ?_) (fun e => ?_)
    · have w5 : how < 5 := of_decide_eq_true e
      walk_at "rdh"
      refine sl_to (n := n) tp rfl fun b1 H4 s4 tb1 => ?_
      walk_at "rdh"
      refine .inr ⟨_, rfl, ?_⟩
      walk_at "rdh"
      obtain ⟨v, e2, av, em, ev⟩ := some_at (i := how % 2 + 2 * if decide (how = 4) = true then 1 else 0) (els.same s4) (by split <;> omega) (by show _ < (11 : Int); split <;> omega)
      refine r_ixL (s4 _ _ hS) av ?_
      walk_at "rdh"
      refine r_new (by show 1 ≤ 1000; decide) fun q4 hq4 => ?_
      have s5 := Same.new (o := .tup [v]) hq4
      have t4 : TupAt d c (upd H4 q4 (.tup [v])) q4 [e2] := ⟨_, upd_same, .cons ((ev).same s5) .nil⟩
      walk_at "rdh"
      refine cat_t (tb1.same s5) t4 (by simp only [List.length_take, List.length_cons, List.length_nil, l3]; omega) fun x1 H6 s6 tx1 => ?_
      walk_at "rdh"
      refine sl_from (n := n + 1) (((tp.same s4).same s5).same s6) (by omega) fun b2 H7 s7 tb2 => ?_
      walk_at "rdh"
      refine cat_t (tx1.same s7) tb2 (by simp only [List.length_append, List.length_take, List.length_drop, List.length_cons, List.length_nil, l3]; omega) fun x2 H8 s8 tx2 => ?_
      obtain ⟨vs8, h8, e8⟩ := tx2
      have sF := (((s4.trans s5).trans s6).trans s7).trans s8
      exact k _ (.tup _) _ (o13.trans (Off.of sF)) (dk3.same sF) ⟨x2, vs8, rfl, h8, e8⟩ (fit_bent n3 hs3 (ss _ em))
    · have w5 : ¬ how < 5 := of_decide_eq_false e
      walk_at "rdh"
      refine sl_to (n := n) tp rfl fun b1 H4 s4 tb1 => ?_
      walk_at "rdh"
      refine sl_from (n := n + 1) (tp.same s4) (by omega) fun b2 H5 s5 tb2 => ?_
      walk_at "rdh"
      refine cat_t (tb1.same s5) tb2 (by simp only [List.length_take, List.length_drop, l3]; omega) fun x1 H6 s6 tx1 => ?_
      have s36 := (s4.trans s5).trans s6
      walk_at "rdh"
      refine sl_to (n := n + 1) (tp.same s36) (by omega) fun b3 H7 s7 tb3 => ?_
      walk_at "rdh"
      refine sl_from (n := n) ((tp.same s36).same s7) rfl fun b4 H8 s8 tb4 => ?_
      walk_at "rdh"
      refine cat_t (tb3.same s8) tb4 (by simp only [List.length_take, List.length_drop, l3]; omega) fun x2 H9 s9 tx2 => ?_
      have s39 := ((s36.trans s7).trans s8).trans s9
      walk_at "rdh"
      refine r_rev3 ?_
      walk_at "rdh"
      refine ⟨p, _, _, _, rfl, SqT.of (s39 _ _ hp3), fun r3 hr3 => ?_⟩
      have s10 := Same.new (o := .tup [.int t, .int h, .int l]) hr3
      have hT := upd_same (H := H9) (a := r3) (o := HO.tup [.int t, .int h, .int l])
      generalize upd H9 r3 (.tup [.int t, .int h, .int l]) = HA at *
      have s3A := s39.trans s10
      walk_at "rdh"
      refine ⟨p, _, rfl, .inr (SqT.of (s3A _ _ hp3)), fun r4 hr4 => ?_⟩
      obtain ⟨r4d, r4c⟩ := fresh_ne (dk3.same s3A) hr4
      have s11 := Same.new (o := .lst [.int l, .int h, .int t]) hr4
      have hL := upd_same (H := HA) (a := r4) (o := HO.lst [.int l, .int h, .int t])
      generalize upd HA r4 (.lst [.int l, .int h, .int t]) = HB at *
      have s3B := s3A.trans s11
      walk_at "rdh"
      refine sl_from (n := 1) (tp.same s3B) rfl fun b5 H10 s12 tb5 => ?_
      walk_at "rdh"
      refine sl_to (n := 1) ((tp.same s3B).same s12) rfl fun b6 H11 s13 tb6 => ?_
      walk_at "rdh"
      refine cat_t (tb5.same s13) tb6 (by simp only [List.length_take, List.length_drop, l3]; omega) fun x5 H12 s14 tx5 => ?_
      have sB := (s12.trans s13).trans s14
      walk_at "rdh"
      refine r_new (by show 5 ≤ 1000; decide) fun q6 hq6 => ?_
      obtain ⟨q6d, q6c⟩ := fresh_ne (dk3.same (s3B.trans sB)) hq6
      have s15 := Same.new (o := .lst [.ref x1, .ref x2, .ref r3, .ref r4, .ref x5]) hq6
      have hR := upd_same (H := H12) (a := q6) (o := HO.lst [.ref x1, .ref x2, .ref r3, .ref r4, .ref x5])
      generalize upd H12 q6 (.lst [.ref x1, .ref x2, .ref r3, .ref r4, .ref x5]) = H13 at *
      have s3D := (s3B.trans sB).trans s15
      have dk13 := dk3.same s3D
      have sBD := sB.trans s15
      have s9D := (s10.trans s11).trans sBD
      have tx1' := ((((tx1.same s7).same s8).same s9).same s9D)
      have tx2' := tx2.same s9D
      have tx5' := tx5.same s15
      have hT' := (s11.trans sBD) _ _ hT
      have hL' := sBD _ _ hL
      walk_at "rdh"
      refine r_ite (fun e10 => ?_) (fun e10 => ?_)
      · have w10 : how < 10 := of_decide_eq_true e10
        walk_at "rdh"
        have go : ∀ (v : V) (th : Th), atI [V.ref x1, .ref x2, .ref r3, .ref r4, .ref x5] (how - 5) = some v → ThAt d c H13 v th → th.fit → rIxL K (.ref q6) (.int (how - 5)) H13 Q := fun v th av ht hf => r_ixL hR av (k v th H13 (o13.trans (Off.of s3D)) dk13 ht hf)
        have five : how - 5 = 0 ∨ how - 5 = 1 ∨ how - 5 = 2 ∨ how - 5 = 3 ∨ how - 5 = 4 := by omega
        rcases five with e | e | e | e | e
        · obtain ⟨vs, hv, he⟩ := tx1'
          exact go (.ref x1) (.tup _) (by rw [e]; rfl) ⟨x1, vs, rfl, hv, he⟩ (fit_two (by omega) (by omega) hs3)
        · obtain ⟨vs, hv, he⟩ := tx2'
          exact go (.ref x2) (.tup _) (by rw [e]; rfl) ⟨x2, vs, rfl, hv, he⟩ (fit_two (by omega) (by omega) hs3)
        · exact go (.ref r3) (.tup [.int t, .int h, .int l]) (by rw [e]; rfl) ⟨r3, _, rfl, hT', .cons rfl (.cons rfl (.cons rfl .nil))⟩ (fit_of (by show 3 ≤ 4; decide) (by show 3 ≠ 1; decide) (fun x hx => hs3 x (by simp only [trio, List.mem_cons, List.not_mem_nil, or_false] at hx ⊢; rcases hx with h | h | h <;> simp [h])))
        · exact go (.ref r4) (.lst [l, h, t]) (by rw [e]; rfl) ⟨r4, rfl, r4d, r4c, hL'⟩ ⟨by show 3 ≤ 4; decide, fun z hz => by
            have le : (2 : Nat) ^ 290 ≤ 2 ^ 300 := by decide
            simp only [List.mem_cons, List.not_mem_nil, or_false] at hz
            rcases hz with rfl | rfl | rfl <;> omega⟩
        · obtain ⟨vs, hv, he⟩ := tx5'
          refine go (.ref x5) (.tup _) (by rw [e]; rfl) ⟨x5, vs, rfl, hv, he⟩ (fit_of (by simp only [List.length_append, List.length_take, List.length_drop, l3]; omega) (by simp only [List.length_append, List.length_take, List.length_drop, l3]; omega) (fun x hx => ?_))
          rcases List.mem_append.mp hx with hx | hx
          · exact hs3 x (List.mem_of_mem_drop hx)
          · exact hs3 x (List.mem_of_mem_take hx)
      walk_at "rdh"
      have tp13 := tp.same s3D
      have els13 := els.same s3D
      have hS13 := s3D _ _ hS
      refine sl_to (n := n) tp13 rfl fun b7 H14 s16 tb7 => ?_
      walk_at "rdh"
      refine rd_draw (dk13.same s16) (by decide) (by decide) fun ii H15 o15 dk15 i0 i1 => ?_
      have dk14 := dk13.same s16
      have tb15 := tb7.off o15 dk14
      have tp15 := (tp13.same s16).off o15 dk14
      have els15 : ElsAt d c H15 _ _ := (els13.same s16).off o15 dk14
      have hS15 := o15 _ _ q3d q3c (s16 _ _ hS13)
      have o115 := ((o13.trans (Off.of s3D)).trans (Off.of s16)).trans o15
      walk_at "rdh"
      obtain ⟨v, e2, av, em, ev⟩ := some_at (i := ii) els15 i0 i1
      refine r_ixL hS15 av ?_
      walk_at "rdh"
      refine r_new (by show 1 ≤ 1000; decide) fun q4 hq4 => ?_
      have s5 := Same.new (o := .tup [v]) hq4
      have t4 : TupAt d c (upd H15 q4 (.tup [v])) q4 [e2] := ⟨_, upd_same, .cons (ev.same s5) .nil⟩
      walk_at "rdh"
      refine cat_t (tb15.same s5) t4 (by simp only [List.length_take, List.length_cons, List.length_nil, l3]; omega) fun x1 H6 s6 tx1 => ?_
      walk_at "rdh"
      refine sl_from (n := n + 1) ((tp15.same s5).same s6) (by omega) fun b2 H7 s7 tb2 => ?_
      walk_at "rdh"
      refine cat_t (tx1.same s7) tb2 (by simp only [List.length_append, List.length_take, List.length_drop, List.length_cons, List.length_nil, l3]; omega) fun x2 H8 s8 tx2 => ?_
      obtain ⟨vs8, h8, e8⟩ := tx2
      have sF := ((s5.trans s6).trans s7).trans s8
      exact k _ (.tup _) _ (o115.trans (Off.of sF)) (dk15.same sF) ⟨x2, vs8, rfl, h8, e8⟩ (fit_bent n3 hs3 (ss _ em))
end
end My

namespace My
open PySem L2
section
variable {P : Program} {w : World} {K : PySem.W.Frag} {mg : Str → Option Value} {base : Heap}
theorem is_blT {w : World} {K : PySem.W.Frag} {H : Hp} {z : Bool} {Q : VK} (q : Q (.bl true) H) : rIsi K [.bl z, .ty "bool"] H Q :=
  ⟨.bl z, .ty "bool", .type "bool", .type "bool", true, rfl, .ty "bool", .base (.bl z), kit_ty (by decide +kernel), q⟩
theorem good_text {r : Way} {u : Rat} {th : Th} (f : th.fit) : goodTh r u th = (th.isTup && decide (th.text = (Th.tup [.int u.floor, .int (highQ u), .int (takenQ r u)]).text)) := by
  cases th with
  | tup es =>
    show decide _ = (true && decide _)
    rw [Bool.true_and, decide_eq_decide]
    exact ⟨fun e => by rw [e], fun e => three_text f.2.1 e⟩
  | _ => rfl
def spRight (C : Addr) : Sp := fun vs H Q _ => ∃ (n s d c pd : Addr) (x y : Rat) (r : Way) (v : V) (th : Th), vs = [.ref n, .ref s, .str (wname r), .ref pd, v] ∧ NumAt C H n x ∧ NumAt C H s y ∧ Bd 900 x ∧ Bd 900 y ∧ y ≠ 0 ∧
  H pd = some (.tup [.int (x / y).floor, .int (highQ (x / y)), .int (takenQ r (x / y))]) ∧ (x / y).floor.natAbs < 2 ^ 290 ∧ (highQ (x / y)).natAbs < 2 ^ 290 ∧ (takenQ r (x / y)).natAbs < 2 ^ 290 ∧ ThAt d c H v th ∧ th.fit ∧ ∀ H' : Hp, Same H H' → Q (.bl true) H'
theorem okG_l_right (T : Txt w K mg) : FnG P w K mg base 5 T.f_l_right T.fd_l_right ["_law_here", "_law_unit_step", "_law_rule", "_law_due", "_law_thing"] (spRight T.C_Number) := by
  refine FnG.by_body T.F_l_right sc_l_right (fun vs H Q E h => ?_) (fun cdv A outer s H vs Q E hG hr h => ?_)
  · obtain ⟨n, st, d, c, pd, x, y, r, v, th, rfl, _⟩ := h
    rfl
  · obtain ⟨n, st, d, c, pd, x, y, r, v, th, rfl, hn, hs, bx, by', y0, hd, bf, bh, bt, hth, fit, k⟩ := h
    refine ⟨_, (pss_cons (ps_set (i := 5) sc_l_right.nd rfl (Or.inl rfl) (pe_callB (call_reprT hG hr.units) (by rfl) T.n_repr (by decide +kernel) (pa_cons (pv 4) pa_nil)))
 (pss_cons (ps_set (i := 6) sc_l_right.nd rfl (Or.inl rfl) (pe_call (ok_round_holds T) (hr.mono (by decide)) (by rfl) T.m_round_holds T.F_round_holds.kp T.b_round_holds .nil pass0 (pa_cons (pv 0) (pa_cons (pv 1) (pa_cons (pv 2) (pa_cons (pv 4) pa_nil))))))
 (pss_cons (ps_set (i := 7) sc_l_right.nd rfl (Or.inl rfl) (pe_and (pe_callB call_isi (by rfl) T.n_isinstance (by decide +kernel) (pa_cons (pv 4) (pa_cons (pe_bltn (v := .ty "tuple") (by rfl) T.n_tuple (by decide +kernel) rfl) pa_nil))) (pe_one (pe_cmpR op_eq (pe_callB (call_reprT hG hr.units) (by rfl) T.n_repr (by decide +kernel) (pa_cons (pv 4) pa_nil)) (pe_callB (call_reprT hG hr.units) (by rfl) T.n_repr (by decide +kernel) (pa_cons (pv 3) pa_nil)) (nomark _)))))
 (pss_one (ps_ret (pe_and (pe_callB call_isi (by rfl) T.n_isinstance (by decide +kernel) (pa_cons (pv 6) (pa_cons (pe_bltn (v := .ty "bool") (by rfl) T.n_bool (by decide +kernel) rfl) pa_nil))) (pe_and (pe_cmpR op_eq (pv 6) (pv 7) (nomark _)) (pe_one (pe_cmpR op_eq (pe_callB (call_reprT hG hr.units) (by rfl) T.n_repr (by decide +kernel) (pa_cons (pv 4) pa_nil)) (pv 5) (nomark _)))))))))), ?_⟩
    walk_at "rdh"
    refine rd_reprT hth fit ?_
    walk_at "rdh"
    refine ⟨n, st, d, c, x, y, r, v, th, rfl, hn, hs, bx, by', y0, hth, fit, fun H1 s1 => ?_⟩
    have hth1 := hth.same s1
    have hd1 := s1 _ _ hd
    have fitd : (Th.tup (trio (x / y).floor (highQ (x / y)) (takenQ r (x / y)))).fit := fit_of (by show 3 ≤ 4; decide) (by show 3 ≠ 1; decide) (trio_small bf bh bt)
    have hdt : ThAt d c H1 (.ref pd) (Th.tup (trio (x / y).floor (highQ (x / y)) (takenQ r (x / y)))) := ⟨pd, _, rfl, hd1, .cons rfl (.cons rfl (.cons rfl .nil))⟩
    have k' := k H1 s1
    have gt := good_text (r := r) (u := x / y) fit
    walk_at "rdh"
    refine ty_th hth1 ?_
    walk_at "rdh"
    refine r_ite (fun i => ?_) (fun i => ?_)
    · walk_at "rdh"
      refine rd_reprT hth1 fit ?_
      walk_at "rdh"
      refine rd_reprT hdt fitd ?_
      walk_at "rdh"
      refine is_blT (w := w) ?_
      walk_at "rdh"
      refine r_iteT rfl ?_
      walk_at "rdh"
      refine r_iteT (decide_eq_true (by rw [gt, i]; rfl)) ?_
      walk_at "rdh"
      refine rd_reprT hth1 fit ?_
      walk_at "rdh"
      have : (decide (th.text = th.text)) = true := decide_eq_true rfl
      rw [this]
      exact k'
    · walk_at "rdh"
      refine is_blT (w := w) ?_
      walk_at "rdh"
      refine r_iteT rfl ?_
      walk_at "rdh"
      refine r_iteT (decide_eq_true (by rw [gt, i]; rfl)) ?_
      walk_at "rdh"
      refine rd_reprT hth1 fit ?_
      walk_at "rdh"
      have : (decide (th.text = th.text)) = true := decide_eq_true rfl
      rw [this]
      exact k'
end
end My

namespace My
open PySem L2
section
variable {P : Program} {w : World} {K : PySem.W.Frag} {mg : Str → Option Value} {base : Heap}
def waysV : List V := [.str "up", .str "down", .str "high", .str "low", .str "half up", .str "half down", .str "half even", .str "half odd"]
theorem way_at {j : Nat} {x : V} (h : waysV[j]? = some x) : ∃ r : Way, x = .str (wname r) := by
  rcases j with _ | _ | _ | _ | _ | _ | _ | _ | j
  · exact ⟨.up, (Option.some.inj h).symm⟩
  · exact ⟨.down, (Option.some.inj h).symm⟩
  · exact ⟨.high, (Option.some.inj h).symm⟩
  · exact ⟨.low, (Option.some.inj h).symm⟩
  · exact ⟨.hup, (Option.some.inj h).symm⟩
  · exact ⟨.hdown, (Option.some.inj h).symm⟩
  · exact ⟨.heven, (Option.some.inj h).symm⟩
  · exact ⟨.hodd, (Option.some.inj h).symm⟩
  · cases h
theorem all_ways : ∀ v ∈ waysV, ∃ r : Way, v = .str (wname r) := fun v hv => by
  obtain ⟨i, hi⟩ := List.getElem?_of_mem hv
  exact way_at hi
theorem place_eq {t b c e : Int} (hb : 0 < b) (hc : 0 < c) (he : 0 < e) : (Rat.divInt t b / Rat.divInt c e).floor = t * e / (b * c) ∧ highQ (Rat.divInt t b / Rat.divInt c e) = t * e / (b * c) + (if decide (0 < t * e - t * e / (b * c) * (b * c)) = true then 1 else 0) := by
  have bc0 : 0 < b * c := Int.mul_pos hb hc
  have r0 : 0 ≤ t * e - t * e / (b * c) * (b * c) := by
    have := Int.emod_nonneg (t * e) (show b * c ≠ 0 by omega)
    rw [Int.emod_def, Int.mul_comm (b * c)] at this
    exact this
  have r1 : t * e - t * e / (b * c) * (b * c) < b * c := by
    have := Int.emod_lt_of_pos (t * e) bc0
    rw [Int.emod_def, Int.mul_comm (b * c)] at this
    exact this
  have s := steps_split (t := t) hb hc he
  have hq : (0 : Rat) < ((b * c : Int) : Rat) := Rat.intCast_pos.mpr bc0
  have f0 : 0 ≤ Rat.divInt (t * e - t * e / (b * c) * (b * c)) (b * c) := by
    rw [Rat.divInt_eq_div]
    refine Rat.not_lt.mp fun z => ?_
    have := (Rat.div_lt_iff hq).mp z
    have := Rat.intCast_nonneg.mpr r0
    grind
  have f1 : Rat.divInt (t * e - t * e / (b * c) * (b * c)) (b * c) < 1 := by
    rw [Rat.divInt_eq_div]
    refine (Rat.div_lt_iff hq).mpr ?_
    have := Rat.intCast_lt_intCast.mpr r1
    grind
  have fl := floor_add (c := t * e / (b * c)) f0 f1
  have pt := part_add (c := t * e / (b * c)) f0 f1
  rw [← s] at fl pt
  refine ⟨fl, ?_⟩
  unfold highQ
  rw [pt, fl]
  by_cases z : t * e - t * e / (b * c) * (b * c) = 0
  · have n0 : (Rat.divInt (t * e - t * e / (b * c) * (b * c)) (b * c)).num = 0 := by rw [z, Rat.num_divInt]; simp
    rw [if_pos n0, if_neg (by rw [z]; simp)]
    omega
  · have n0 : ¬ (Rat.divInt (t * e - t * e / (b * c) * (b * c)) (b * c)).num = 0 := by
      intro y
      apply z
      have := Rat.num_eq_zero.mp y
      rw [Rat.divInt_eq_div] at this
      have h : ((t * e - t * e / (b * c) * (b * c) : Int) : Rat) = 0 := by grind
      exact Rat.intCast_eq_zero_iff.mp h
    rw [if_neg n0, if_pos (decide_eq_true (by omega))]
theorem r_lcR {σ : L2.St} {H : Hp} {Q : VK} {te : TE} {tr : TA} {g : TG} {tt : TT} {vs : List Nat} (q : tr σ H fun xs H1 => ∃ j : Int, xs = [.int j] ∧ -(2 ^ 62) ≤ j ∧ j < 2 ^ 62 ∧ ∀ D, H1 D = none → ∃ W : Nat → Nat → Hp → Prop, (∃ m, W 0 m (upd H1 D (.lst []))) ∧ ∀ i m H, W i m H →
    ((Itr 0 j.toNat).stop i H ∧ Q (.ref D) H) ∨ ((Itr 0 j.toNat).go i H ∧ ∃ Nx : Hp → Prop, (∀ H', Nx H' → ∃ m', m' < m ∧ W (i + 1) m' H') ∧ ∀ x H', (Itr 0 j.toNat).yld i H x H' → g x (wipe σ vs) H' fun σ2 H2 => wipe σ2 vs = wipe σ vs ∧ tt σ2 H2 fun b H3 =>
      if b = true then te σ2 H3 fun y H4 => ∃ acc, H4 D = some (.lst acc) ∧ acc.length < sizeLine ∧ Nx (upd H4 D (.lst (acc ++ [y]))) else Nx H3)) : tLc (iRng1 tr) g tt te vs σ H Q := q
theorem r_dnewK {σ : L2.St} {H : Hp} {Q : VK} (q : ∀ p, H p = none → Q (.ref p) (upd H p (.dK []))) : tDNewK σ H Q := q
theorem r_append' {H : Hp} {Q : VK} {y : V} {p : Addr} {xs : List V} (h : H p = some (.lst xs)) (l : xs.length ≤ 100000) (q : Q .non (upd H p (.lst (xs ++ [y])))) : rAppend (.ref p) [y] H Q := ⟨p, xs, y, rfl, rfl, h, Nat.lt_of_le_of_lt l (by decide), q⟩
theorem taken_bd {n : Nat} {r : Way} {x : Rat} (h : Bd n x) : (takenQ r x).natAbs < 2 ^ (n + 1) := by
  have b := floor_bd h
  rw [Nat.pow_succ]
  unfold takenQ
  split
  · omega
  · split <;> omega
/-- a list of ours changes; the deck stays -/
theorem DeckAt.upd {H : Hp} {d c m : Addr} {o : HO} (h : DeckAt H d c) (md : m ≠ d) (mc : m ≠ c) : DeckAt (upd H m o) d c := by
  obtain ⟨a, n, xs, h1, h2, h3, h4⟩ := h
  exact ⟨a, n, xs, by rw [upd_ne md.symm]; exact h1, by rw [upd_ne mc.symm]; exact h2, h3, h4⟩
/-- one thing of the list -/
def Good (d c : Addr) (H : Hp) (v : V) : Prop := ∃ th, ThAt d c H v th ∧ th.fit
def Ts (d c : Addr) (H : Hp) (vs : List V) : Prop := ∀ v ∈ vs, Good d c H v
theorem Good.same {d c : Addr} {H H' : Hp} {v : V} (s : Same H H') (h : Good d c H v) : Good d c H' v := let ⟨th, a, f⟩ := h; ⟨th, a.same s, f⟩
theorem Good.off {d c : Addr} {H H' : Hp} {v : V} (o : Off d c H H') (dk : DeckAt H d c) (h : Good d c H v) : Good d c H' v := let ⟨th, a, f⟩ := h; ⟨th, a.off o dk, f⟩
theorem Ts.same {d c : Addr} {H H' : Hp} {vs : List V} (s : Same H H') (h : Ts d c H vs) : Ts d c H' vs := fun v hv => (h v hv).same s
theorem Ts.off {d c : Addr} {H H' : Hp} {vs : List V} (o : Off d c H H') (dk : DeckAt H d c) (h : Ts d c H vs) : Ts d c H' vs := fun v hv => (h v hv).off o dk
theorem Ts.add {d c : Addr} {H : Hp} {vs : List V} {v : V} (h : Ts d c H vs) (g : Good d c H v) : Ts d c H (vs ++ [v]) := fun x hx => by
  rcases List.mem_append.mp hx with hx | hx
  · exact h x hx
  · obtain rfl := List.mem_singleton.mp hx
    exact g
theorem Ts.app {d c : Addr} {H : Hp} {vs ws : List V} (h : Ts d c H vs) (g : Ts d c H ws) : Ts d c H (vs ++ ws) := fun x hx => (List.mem_append.mp hx).elim (h x) (g x)
/-- the list itself changes: the things in it are other objects -/
theorem ElAt.grow {d c m q : Addr} {H : Hp} {vs ws : List V} {v : V} {e : El} (hm : H m = some (.lst vs)) (hq : .ref q ∈ vs) (h : ElAt d c H v e) : ElAt d c (upd H m (.lst ws)) v e := by
  cases e with
  | tup z =>
    obtain ⟨p, rfl, hp⟩ := h
    exact ⟨p, rfl, by rw [upd_ne (ne_of hp hm (fun z => by cases z))]; exact hp⟩
  | lst z =>
    obtain ⟨p, rfl, n1, n2, hp⟩ := h
    refine ⟨p, rfl, n1, n2, ?_⟩
    rw [upd_ne (ne_of hp hm (fun z => by
      injection z with z
      rw [← z] at hq
      simp at hq))]
    exact hp
  | _ => exact h
theorem ElsAt.grow {d c m q : Addr} {H : Hp} {vs ws xs : List V} {es : List El} (hm : H m = some (.lst vs)) (hq : .ref q ∈ vs) (h : ElsAt d c H xs es) : ElsAt d c (upd H m (.lst ws)) xs es := by
  induction h with
  | nil => exact .nil
  | cons h1 _ ih => exact .cons (h1.grow hm hq) ih
theorem ThAt.grow {d c m q : Addr} {H : Hp} {vs ws : List V} {v : V} {t : Th} (hm : H m = some (.lst vs)) (hq : .ref q ∈ vs) (h : ThAt d c H v t) : ThAt d c (upd H m (.lst ws)) v t := by
  cases t with
  | dct =>
    obtain ⟨p, rfl, hp⟩ := h
    exact ⟨p, rfl, by rw [upd_ne (ne_of hp hm (fun z => by cases z))]; exact hp⟩
  | tup es =>
    obtain ⟨p, xs, rfl, hp, he⟩ := h
    exact ⟨p, xs, rfl, by rw [upd_ne (ne_of hp hm (fun z => by cases z))]; exact hp, he.grow hm hq⟩
  | lst zs =>
    obtain ⟨p, rfl, n1, n2, hp⟩ := h
    refine ⟨p, rfl, n1, n2, ?_⟩
    rw [upd_ne (ne_of hp hm (fun z => by
      injection z with z
      rw [← z] at hq
      simp at hq))]
    exact hp
  | _ => exact h
theorem good3 {d c p : Addr} {H : Hp} {l h t : Int} (hp : H p = some (.tup [.int l, .int h, .int t])) (hl : l.natAbs < 2 ^ 290) (hh : h.natAbs < 2 ^ 290) (ht : t.natAbs < 2 ^ 290) : Good d c H (.ref p) :=
  ⟨.tup (trio l h t), ⟨p, _, rfl, hp, .cons rfl (.cons rfl (.cons rfl .nil))⟩, fit_of (by show 3 ≤ 4; decide) (by show 3 ≠ 1; decide) (trio_small hl hh ht)⟩
theorem goodT {d c p : Addr} {H : Hp} {es : List El} (hp : TupAt d c H p es) (n : es.length ≤ 4) (n1 : es.length ≠ 1) (h : ∀ e ∈ es, e.small) : Good d c H (.ref p) :=
  let ⟨vs, h1, he⟩ := hp
  ⟨.tup es, ⟨p, vs, rfl, h1, he⟩, fit_of n n1 h⟩
/-- while the things are bent -/
structure Lp (C d c here unit pd D m : Addr) (x y : Rat) (L Hh Tk : Int) (zs : List Int) (n : Nat) (H : Hp) : Prop where
  dk : DeckAt H d c
  hh : NumAt C H here x
  hu : NumAt C H unit y
  hd : H pd = some (.tup [.int L, .int Hh, .int Tk])
  hz : H D = some (.lst (zs.map V.int))
  ln : ∃ vs, H m = some (.lst vs) ∧ .ref pd ∈ vs ∧ vs.length ≤ 20 + n ∧ Ts d c H vs
theorem Lp.off {C d c here unit pd D m : Addr} {x y : Rat} {L Hh Tk : Int} {zs : List Int} {n : Nat} {H H' : Hp} (Dd : D ≠ d) (Dc : D ≠ c) (md : m ≠ d) (mc : m ≠ c) (o : Off d c H H') (dk' : DeckAt H' d c) (h : Lp C d c here unit pd D m x y L Hh Tk zs n H) : Lp C d c here unit pd D m x y L Hh Tk zs n H' := by
  obtain ⟨dk, ⟨d1, hh⟩, ⟨d2, hu⟩, hd, hz, vs, hm, hp, lv, ts⟩ := h
  exact ⟨dk', ⟨d1, o.keep dk hh (fun _ z => by cases z)⟩, ⟨d2, o.keep dk hu (fun _ z => by cases z)⟩, o.keep dk hd (fun _ z => by cases z), o _ _ Dd Dc hz, vs, o _ _ md mc hm, hp, lv, ts.off o dk⟩
theorem Lp.grow {C d c here unit pd D m : Addr} {x y : Rat} {L Hh Tk : Int} {zs : List Int} {n : Nat} {H : Hp} {vs : List V} {v : V} (md : m ≠ d) (mc : m ≠ c) (h : Lp C d c here unit pd D m x y L Hh Tk zs n H) (hm : H m = some (.lst vs)) (hp : .ref pd ∈ vs) (lv : vs.length ≤ 20 + n) (ts : Ts d c H vs) (g : Good d c H v) : Lp C d c here unit pd D m x y L Hh Tk zs (n + 1) (upd H m (.lst (vs ++ [v]))) := by
  obtain ⟨dk, ⟨d1, hh⟩, ⟨d2, hu⟩, hd, hz, _⟩ := h
  refine ⟨dk.upd md mc, ⟨d1, by rw [upd_ne (ne_of hh hm (fun z => by cases z))]; exact hh⟩, ⟨d2, by rw [upd_ne (ne_of hu hm (fun z => by cases z))]; exact hu⟩, by rw [upd_ne (ne_of hd hm (fun z => by cases z))]; exact hd, ?_, vs ++ [v], upd_same, List.mem_append_left _ hp, by rw [List.length_append, List.length_singleton]; omega, fun w hw => ?_⟩
  · rw [upd_ne (ne_of hz hm (fun z => by
      injection z with z
      rw [← z] at hp
      simp at hp))]
    exact hz
  · have : Good d c H w := by
      rcases List.mem_append.mp hw with hw | hw
      · exact ts w hw
      · obtain rfl := List.mem_singleton.mp hw
        exact g
    obtain ⟨th, a, f⟩ := this
    exact ⟨th, a.grow hm hp, f⟩
def spLaw (K : PySem.W.Frag) : Sp := fun vs H Q _ => ∃ (a : Addr) (ns : List Int), vs = [.ref a] ∧ SqL K H a (ns.map V.int) ∧ ns.length ≤ 63 ∧ ∀ H', Q (.bl true) H'
theorem okG_law (T : Txt w K mg) : FnG P w K mg base 6 T.f_law T.fd_law ["_law_script"] (spLaw K) := by
  refine FnG.by_body T.F_law sc_law (fun vs H Q E h => ?_) (fun cdv A outer s H vs Q E hG hr h => ?_)
  · obtain ⟨a, ns, rfl, _⟩ := h
    rfl
  · obtain ⟨a, ns, rfl, hS, hl, k⟩ := h
    refine ⟨_, (pss_cons (ps_set (i := 1) sc_law.nd rfl (Or.inr rfl) (pe_call (ok_l_deck T) (hr.mono (by decide)) (by rfl) T.m_l_deck T.F_l_deck.kp T.b_l_deck .nil pass0 (pa_cons (pv 0) pa_nil)))
 (pss_cons (ps_for PassesOwn.never rfl (pi_range1 rfl T.n_range (pa_cons pe_int pa_nil)) (pg_name (i := 2) sc_law.nd rfl (Or.inl rfl))
  (pss_cons (ps_set (i := 3) sc_law.nd rfl (Or.inr rfl) (pe_ix ix_tup (pe_glob (v := .ref T.A_WAYS) (by rfl) T.m_WAYS rfl) (pe_call (ok_l_draw T) (hr.mono (by decide)) (by rfl) T.m_l_draw T.F_l_draw.kp T.b_l_draw .nil pass0 (pa_cons (pv 1) (pa_cons pe_int pa_nil))) (fun _ _ => rfl)))
 (pss_cons (ps_setLc (i := 4) (own := [("_law_k", 16)]) (g := gName 16) (tt := tYes) rfl sc_law.nd rfl rfl (sw_true rfl rfl rfl (by decide +kernel)) (pi_range1 rfl T.n_range (pa_cons pe_int pa_nil)) (blkOk_by (own := [("_law_k", 16)]) (N := ["_law_script", "_law_deck_here", "_law_turn", "_law_rule", "_law_twices", "_law_grain_here", "_law_number", "_law_here", "_law_unit_step", "_law_low", "_law_rest", "_law_whole", "_law_due", "_law_things", "_law_twice", "_law_bent", "_law_k", "_law_thing"]) (sc := defScope s_law) (by decide +kernel)) (fun _ _ _ _ _ => pg_name (i := 16) sc_law.nd rfl (Or.inl rfl)) (fun _ _ _ _ _ => pts_nil) (fun _ _ _ _ _ => (pe_call (ok_l_draw T) (hr.mono (by decide)) (by rfl) T.m_l_draw T.F_l_draw.kp T.b_l_draw .nil pass0 (pa_cons (pv 1) (pa_cons pe_int pa_nil)))))
 (pss_cons (ps_set (i := 5) sc_law.nd rfl (Or.inl rfl) (pe_call (ok_l_grain T) (hr.mono (by decide)) (by rfl) T.m_l_grain T.F_l_grain.kp T.b_l_grain .nil pass0 (pa_cons (pv 1) pa_nil)))
 (pss_cons (ps_set (i := 6) sc_law.nd rfl (Or.inl rfl) (pe_call (ok_l_near T) (hr.mono (by decide)) (by rfl) T.m_l_near T.F_l_near.kp T.b_l_near .nil pass0 (pa_cons (pv 1) (pa_cons (pv 5) pa_nil))))
 (pss_cons (ps_asg (pe_tup (pa_cons (pe_make T.mk_Number (ok_Number_init T) (hr.mono (by decide)) (by rfl) T.m_Number T.b_Number_init2 .nil pass0 (pa_cons (pe_ix ix_tup (pv 6) pe_int (fun _ _ => rfl)) (pa_cons (pe_ix ix_tup (pv 6) pe_int (fun _ _ => rfl)) pa_nil))) (pa_cons (pe_make T.mk_Number (ok_Number_init T) (hr.mono (by decide)) (by rfl) T.m_Number T.b_Number_init2 .nil pass0 (pa_cons (pe_ix ix_tup (pv 5) pe_int (fun _ _ => rfl)) (pa_cons (pe_ix ix_tup (pv 5) pe_int (fun _ _ => rfl)) pa_nil))) pa_nil))) (pg_tup rfl (pgs_cons (pg_name (i := 7) sc_law.nd rfl (Or.inr rfl)) (pgs_cons (pg_name (i := 8) sc_law.nd rfl (Or.inr rfl)) pgs_nil))))
 (pss_cons (ps_asg (pe_call (ok_l_steps T) (hr.mono (by decide)) (by rfl) T.m_l_steps T.F_l_steps.kp T.b_l_steps .nil pass0 (pa_cons (pv 6) (pa_cons (pv 5) pa_nil))) (pg_tup rfl (pgs_cons (pg_name (i := 9) sc_law.nd rfl (Or.inl rfl)) (pgs_cons (pg_name (i := 10) sc_law.nd rfl (Or.inl rfl)) (pgs_cons (pg_name (i := 11) sc_law.nd rfl (Or.inl rfl)) pgs_nil)))))
 (pss_cons (ps_set (i := 12) sc_law.nd rfl (Or.inr rfl) (pe_tup (pa_cons (pv 9) (pa_cons (pe_op op_add (pv 9) (pe_callTy call_int1 (by rfl) T.n_int (by decide +kernel) (pa_cons (pe_cmpR op_gt (pv 10) pe_int (nomark _)) pa_nil))) (pa_cons (pe_call (ok_l_count T) (hr.mono (by decide)) (by rfl) T.m_l_count T.F_l_count.kp T.b_l_count .nil pass0 (pa_cons (pv 6) (pa_cons (pv 5) (pa_cons (pv 3) pa_nil)))) pa_nil)))))
 (pss_cons (ps_set (i := 13) sc_law.nd rfl (Or.inl rfl) (pe_lst (pa_cons (pv 12) (pa_cons pe_non (pa_cons pe_bl (pa_cons pe_int (pa_cons pe_str (pa_cons (pe_tup pa_nil) (pa_cons (pe_lst pa_nil) (pa_cons pe_dnewK (pa_cons (pe_slice sl_tupA (pv 12) po_none (po_some pe_int)) (pa_cons (pe_op op_catA (pv 12) (pe_slice sl_tupA (pv 12) po_none (po_some pe_int))) (pa_cons (pe_tup (pa_cons (pv 9) (pa_cons (pv 9) (pa_cons (pv 9) pa_nil)))) (pa_cons (pe_tup (pa_cons (pv 9) (pa_cons (pe_op op_add (pv 9) pe_int) (pa_cons (pv 9) pa_nil)))) pa_nil))))))))))))))
 (pss_cons (ps_set (i := 13) sc_law.nd rfl (Or.inl rfl) (pe_op op_cat (pv 13) (pe_lst (pa_cons (pe_tup (pa_cons (pv 9) (pa_cons (pe_op op_add (pv 9) pe_int) (pa_cons (pe_op op_add (pv 9) pe_int) pa_nil)))) (pa_cons (pe_tup (pa_cons (pe_op op_add (pv 9) pe_int) (pa_cons (pv 9) (pa_cons (pv 9) pa_nil)))) (pa_cons (pe_tup (pa_cons (pe_op op_sub (pv 9) pe_int) (pa_cons (pv 9) (pa_cons (pv 9) pa_nil)))) (pa_cons (pe_tup (pa_cons (pv 9) (pa_cons (pe_op op_add (pv 9) pe_int) (pa_cons (pe_op op_add (pv 9) pe_int) pa_nil)))) pa_nil)))))))
 (pss_cons (ps_set (i := 13) sc_law.nd rfl (Or.inl rfl) (pe_op op_cat (pv 13) (pe_lst (pa_cons (pe_tup (pa_cons (pe_op op_add (pv 9) pe_int) (pa_cons (pe_op op_add (pv 9) pe_int) (pa_cons (pe_op op_add (pv 9) pe_int) pa_nil)))) (pa_cons (pe_tup (pa_cons (pe_op op_sub (pv 9) pe_int) (pa_cons (pe_op op_add (pv 9) pe_int) (pa_cons (pv 9) pa_nil)))) (pa_cons (pe_tup (pa_cons (pe_callTy call_str_int (by rfl) T.n_str (by decide +kernel) (pa_cons (pv 9) pa_nil)) (pa_cons (pv 9) (pa_cons (pv 9) pa_nil)))) (pa_cons (pe_lst (pa_cons (pv 9) (pa_cons (pv 9) (pa_cons (pv 9) pa_nil)))) pa_nil)))))))
 (pss_cons (ps_for PassesOwn.never rfl (pi_list (pv 4)) (pg_name (i := 14) sc_law.nd rfl (Or.inl rfl))
  (pss_cons (ps_set (i := 15) sc_law.nd rfl (Or.inl rfl) (pe_call (ok_l_other T) (hr.mono (by decide)) (by rfl) T.m_l_other T.F_l_other.kp T.b_l_other .nil pass0 (pa_cons (pv 1) (pa_cons (pv 12) pa_nil))))
 (C8.pss_cut (ps_if (PW.pt (pw_and (pt_cmpR op_eq (pv 14) pe_int (nomark _)) (pw_and (pt_val (pe_callB call_isi (by rfl) T.n_isinstance (by decide +kernel) (pa_cons (pv 15) (pa_cons (pe_bltn (v := .ty "tuple") (by rfl) T.n_tuple (by decide +kernel) rfl) pa_nil)))) (pw_and (pt_cmpR op_eq (pe_callB call_len_seq (by rfl) T.n_len PySem.boot_len (pa_cons (pv 15) pa_nil)) pe_int (nomark _)) (pw_and1 (pt_val (pe_callB call_isi (by rfl) T.n_isinstance (by decide +kernel) (pa_cons (pe_ix ix_tup (pv 15) pe_int (fun _ _ => rfl)) (pa_cons (pe_bltn (v := .ty "int") (by rfl) T.n_int (by decide +kernel) rfl) pa_nil)))))))))
  (pss_one (ps_set (i := 15) sc_law.nd rfl (Or.inl rfl) (pe_op op_catA (pe_op op_catA (pe_slice sl_tupA (pv 15) po_none (po_some pe_int)) (pe_tup (pa_cons (pe_op op_add (pv 9) (pe_call (ok_l_draw T) (hr.mono (by decide)) (by rfl) T.m_l_draw T.F_l_draw.kp T.b_l_draw .nil pass0 (pa_cons (pv 1) (pa_cons pe_int pa_nil)))) pa_nil))) (pe_slice sl_tupA (pv 15) (po_some pe_int) po_none))))
  pss_nil)
 (pss_one (ps_expr (pe_bm PySem.F.plainAttrs_list PySem.F.slot_list_append PySem.F.type_list_append mt_append (pv 13) (pa_cons (pv 15) pa_nil)))))))
 (pss_one (ps_if (pt_cmpR (op_neD hr.units) (pe_lc (own := [("_law_thing", 17)]) (g := gName 17) rfl sc_law.nd (pi_list (pe_op op_cat (pv 13) (pe_lst (pa_cons (pv 12) pa_nil)))) (blkOk_by (own := [("_law_thing", 17)]) (N := ["_law_script", "_law_deck_here", "_law_turn", "_law_rule", "_law_twices", "_law_grain_here", "_law_number", "_law_here", "_law_unit_step", "_law_low", "_law_rest", "_law_whole", "_law_due", "_law_things", "_law_twice", "_law_bent", "_law_k", "_law_thing"]) (sc := defScope s_law) (by decide +kernel)) (fun _ _ _ _ _ => pg_name (i := 17) sc_law.nd rfl (Or.inl rfl)) (fun _ _ _ _ _ => (pts_one (pt_not (pt_val (pe_callG hG (okG_l_right T) (hr.mono (by decide)) (by rfl) T.m_l_right T.F_l_right.kp T.b_l_right .nil pass0 (pa_cons (pv 7) (pa_cons (pv 8) (pa_cons (pv 3) (pa_cons (pv 12) (pa_cons (pv 17) pa_nil)))))))))) (fun _ _ _ _ _ => (pv 17))) (pe_lst pa_nil) (nomark _))
  (pss_one (ps_ret pe_bl))
  pss_nil))))))))))))))
 (pss_one (ps_ret pe_bl)))), ?_⟩
    walk_at "rdh"
    refine ⟨a, ns, rfl, hS, hl, fun d c H1 s1 dk => ?_⟩
    walk_at "rdh"
    refine r_rng1 ?_
    walk_at "rdh"
    refine ⟨10, rfl, by decide, by decide, for_range (lo := 0) (n := 10) (fun i σ H' => ∃ v2 v3 v4 v5 v6 v7 v8 v9 v10 v11 v12 v13 v14 v15 v16 v17 : Option V, σ = [some (.ref a), some (.ref d), v2, v3, v4, v5, v6, v7, v8, v9, v10, v11, v12, v13, v14, v15, v16, v17] ∧ DeckAt H' d c)
      ⟨_, _, _, _, _, _, _, _, _, _, _, _, _, _, _, _, rfl, dk⟩ ?_ ?_⟩
    · rintro i σ H2 hi ⟨v2, v3, v4, v5, v6, v7, v8, v9, v10, v11, v12, v13, v14, v15, v16, v17, rfl, dk2⟩
      walk_at "rdh"
      refine rd_draw dk2 (by decide) (by decide) fun wi H3 o3 dk3 i0 i1 => ?_
      obtain ⟨v, av, vm⟩ := atI_mem (xs := waysV) i0 i1
      refine ⟨T.A_WAYS, waysV, wi, _, rfl, rfl, T.t_WAYS _, av, ?_⟩
      obtain ⟨r, rfl⟩ := all_ways v vm
      walk_at "rdh"
      refine r_lcR ?_
      walk_at "rdh"
      refine ⟨8, rfl, by decide, by decide, fun D hD => ?_⟩
      obtain ⟨Dd, Dc⟩ := fresh_ne dk3 hD
      refine lc_range (lo := 0) (n := 8) (fun j H' => DeckAt H' d c ∧ ∃ zs : List Int, H' D = some (.lst (zs.map V.int)) ∧ zs.length = j ∧ j ≤ 8)
        ⟨dk3.same (Same.new hD), [], upd_same, rfl, by decide⟩ ?_ ?_
      · rintro j H4 hj ⟨dk4, zs, hz, lz, j8⟩
        walk_at "rdh"
        refine ⟨rfl, ?_⟩
        refine r_tyes ?_
        walk_at "rdh"
        refine rd_draw dk4 (by decide) (by decide) fun q H5 o5 dk5 _ _ => ?_
        refine ⟨_, o5 D _ Dd Dc hz, by rw [List.length_map, lz]; exact Nat.lt_of_le_of_lt j8 (by decide), dk5.upd Dd Dc, zs ++ [q], by rw [upd_same, List.map_append]; rfl, by rw [List.length_append, lz]; rfl, by omega⟩
      rintro H4 ⟨dk4, zs, hz, lz, _⟩
      walk_at "rdh"
      refine ⟨d, c, rfl, dk4, fun g c1 e1 H5 o5 dk5 hg hc he => ?_⟩
      walk_at "rdh"
      refine ⟨d, c, g, c1, e1, rfl, dk5, hg, hc, he, fun n t b H6 o6 dk6 hn ht hb => ?_⟩
      have o46 := o5.trans o6
      have hg6 := o6.keep dk5 hg (fun _ z => by cases z)
      have hz6 := o46 D _ Dd Dc hz
      have b9 : b.natAbs < 2 ^ 200 := Nat.lt_of_lt_of_le (by omega : b.natAbs < 2 ^ 71) (by decide)
      have e9 : e1.natAbs < 2 ^ 200 := Nat.lt_of_lt_of_le (by omega : e1.natAbs < 2 ^ 60) (by decide)
      have bx : Bd 110 (Rat.divInt t b) := Bd.of (by omega) (Nat.lt_of_lt_of_le ht (by decide)) (Nat.lt_of_lt_of_le (by omega : b.natAbs < 2 ^ 71) (by decide))
      have by' : Bd 60 (Rat.divInt c1 e1) := Bd.of (by omega) (by omega) (by omega)
      have y0 : Rat.divInt c1 e1 ≠ 0 := by
        rw [Rat.divInt_eq_div]
        have hc' : (c1 : Rat) ≠ 0 := by simp; omega
        have he' : (e1 : Rat) ≠ 0 := by simp; omega
        grind
      have bu := Bd.div bx by' y0
      obtain ⟨fl, hi'⟩ := place_eq (t := t) hb.1 hc.1 he.1
      have fb : (Rat.divInt t b / Rat.divInt c1 e1).floor.natAbs < 2 ^ 280 := Nat.lt_of_lt_of_le (floor_bd bu) (Nat.pow_le_pow_right (by decide) (by decide))
      have hib : (highQ (Rat.divInt t b / Rat.divInt c1 e1)).natAbs < 2 ^ 280 := Nat.lt_of_lt_of_le (by have := floor_bd bu; unfold highQ; split <;> omega : (highQ (Rat.divInt t b / Rat.divInt c1 e1)).natAbs < 2 ^ 171) (Nat.pow_le_pow_right (by decide) (by decide))
      have tkb : (takenQ r (Rat.divInt t b / Rat.divInt c1 e1)).natAbs < 2 ^ 280 := Nat.lt_of_lt_of_le (taken_bd bu) (Nat.pow_le_pow_right (by decide) (by decide))
      walk_at "rdh"
      refine r_ixT hn (atI_nat (j := 0) rfl) ?_
      walk_at "rdh"
      refine r_ixT hn (atI_nat (j := 1) rfl) ?_
      walk_at "rdh"
      refine mk_num (by omega) (lt9000 b9) fun here H7 s7 _ h7 => ?_
      walk_at "rdh"
      refine r_ixT (s7 _ _ hg6) (atI_nat (j := 0) rfl) ?_
      walk_at "rdh"
      refine r_ixT (s7 _ _ hg6) (atI_nat (j := 1) rfl) ?_
      walk_at "rdh"
      refine mk_num (by omega) (lt9000 e9) fun unit H8 s8 _ h8 => ?_
      walk_at "rdh"
      refine r_new (by show 2 ≤ 1000; decide) fun tp htp => ?_
      have s9 := Same.new (o := .tup [.ref here, .ref unit]) htp
      refine r_gTup upd_same rfl ?_
      generalize upd H8 tp (.tup [.ref here, .ref unit]) = H9 at *
      have s69 := (s7.trans s8).trans s9
      walk_at "rdh"
      refine ⟨n, g, t, b, c1, e1, rfl, s69 _ _ hn, s69 _ _ hg6, Nat.lt_of_lt_of_le ht (by decide), hb, ⟨hc.1, Int.lt_trans hc.2 (by decide)⟩, ⟨he.1, Int.lt_trans he.2 (by decide)⟩, fun p H10 s10 hp => ?_⟩
      refine r_gTup hp rfl ?_
      have s610 := s69.trans s10
      walk_at "rdh"
      refine .inr ⟨_, rfl, ?_⟩
      walk_at "rdh"
      refine ⟨n, g, t, b, c1, e1, r, rfl, s610 _ _ hn, s610 _ _ hg6, Nat.lt_of_lt_of_le ht (by decide), hb, ⟨hc.1, Int.lt_trans hc.2 (by decide)⟩, ⟨he.1, Int.lt_trans he.2 (by decide)⟩, fun H11 s11 => ?_⟩
      walk_at "rdh"
      refine r_new (by show 3 ≤ 1000; decide) fun pd hpd => ?_
      rw [fl] at fb
      rw [hi'] at hib
      have s12 := Same.new (o := .tup [.int (t * e1 / (b * c1)), .int (t * e1 / (b * c1) + if decide (0 < t * e1 - t * e1 / (b * c1) * (b * c1)) = true then 1 else 0), .int (takenQ r (Rat.divInt t b / Rat.divInt c1 e1))]) hpd
      have hd := upd_same (H := H11) (a := pd) (o := HO.tup [.int (t * e1 / (b * c1)), .int (t * e1 / (b * c1) + if decide (0 < t * e1 - t * e1 / (b * c1) * (b * c1)) = true then 1 else 0), .int (takenQ r (Rat.divInt t b / Rat.divInt c1 e1))])
      generalize upd H11 pd (.tup [.int (t * e1 / (b * c1)), .int (t * e1 / (b * c1) + if decide (0 < t * e1 - t * e1 / (b * c1) * (b * c1)) = true then 1 else 0), .int (takenQ r (Rat.divInt t b / Rat.divInt c1 e1))]) = H12 at *
      generalize t * e1 / (b * c1) = L at *
      generalize t * e1 - L * (b * c1) = R at *
      generalize hHh : (L + if decide (0 < R) = true then 1 else 0) = Hh at *
      generalize hTk : takenQ r (Rat.divInt t b / Rat.divInt c1 e1) = Tk at *
      have s612 := (s610.trans s11).trans s12
      have dk12 := dk6.same s612
      have hz12 := s612 _ _ hz6
      have hh12 := h7.same ((((s8.trans s9).trans s10).trans s11).trans s12)
      have hu12 := h8.same (((s9.trans s10).trans s11).trans s12)
      walk_at "rdh"
      have bL : L.natAbs < 2 ^ 289 := by omega
      have bH : Hh.natAbs < 2 ^ 289 := by omega
      have bT : Tk.natAbs < 2 ^ 289 := by omega
      have tpd : TupAt d c H12 pd (trio L Hh Tk) := ⟨_, hd, .cons rfl (.cons rfl (.cons rfl .nil))⟩
      have trs : ∀ e ∈ trio L Hh Tk, e.small := trio_small (by omega) (by omega) (by omega)
      have tr3 : (trio L Hh Tk).length = 3 := rfl
      have sSmall : ∀ e ∈ ([.str L, .int L, .int L] : List El), e.small := fun e he => by
        simp only [List.mem_cons, List.not_mem_nil, or_false] at he
        rcases he with rfl | rfl | rfl <;> (show Int.natAbs _ < 2 ^ 300; omega)
      have gd : Good d c H12 (.ref pd) := good3 hd (by omega) (by omega) (by omega)
      have T0 : Ts d c H12 [.ref pd, .non, .bl true, .int 0, .str ""] := fun v hv => by
        simp only [List.mem_cons, List.not_mem_nil, or_false] at hv
        rcases hv with rfl | rfl | rfl | rfl | rfl
        · exact gd
        · exact ⟨.non, rfl, trivial⟩
        · exact ⟨.tru, rfl, trivial⟩
        · exact ⟨.zero, rfl, trivial⟩
        · exact ⟨.emp, rfl, trivial⟩
      have A0 := Same.refl H12
      walk_at "rdh"
      refine r_new (by show 0 ≤ 1000; decide) fun p1 hp1 => ?_
      have z1 := Same.new (o := .tup []) hp1
      have g1 : Good d c (upd H12 p1 (.tup [])) (.ref p1) := goodT ⟨_, upd_same, .nil⟩ (by show 0 ≤ 4; decide) (by show 0 ≠ 1; decide) (fun e he => by cases he)
      have T1 := (T0.same z1).add g1
      have dk1x := dk12.same z1
      have A1 := A0.trans z1
      generalize upd H12 p1 (.tup []) = G1 at *
      walk_at "rdh"
      refine r_new (by show 0 ≤ 1000; decide) fun p2 hp2 => ?_
      have z2 := Same.new (o := .lst []) hp2
      have g2 : Good d c (upd G1 p2 (.lst [])) (.ref p2) := ⟨.lst [], ⟨p2, rfl, (fresh_ne dk1x hp2).1, (fresh_ne dk1x hp2).2, upd_same⟩, by show 0 ≤ 4; decide, fun z hz => by cases hz⟩
      have T2 := (T1.same z2).add g2
      have dk2x := dk1x.same z2
      have A2 := A1.trans z2
      generalize upd G1 p2 (.lst []) = G2 at *
      walk_at "rdh"
      refine r_dnewK fun p3 hp3 => ?_
      have z3 := Same.new (o := .dK []) hp3
      have g3 : Good d c (upd G2 p3 (.dK [])) (.ref p3) := ⟨.dct, ⟨_, rfl, upd_same⟩, trivial⟩
      have T3 := (T2.same z3).add g3
      have dk3x := dk2x.same z3
      have A3 := A2.trans z3
      generalize upd G2 p3 (.dK []) = G3 at *
      walk_at "rdh"
      refine sl_to (n := 2) (tpd.same A3) rfl fun b4 G4 z4 tb4 => ?_
      have dk4x := dk3x.same z4
      have A4 := A3.trans z4
      have T4 := (T3.same z4).add (goodT tb4 (by simp only [List.length_take, tr3]; omega) (by simp only [List.length_take, tr3]; omega) (fun e he => trs e (List.mem_of_mem_take he)))
      walk_at "rdh"
      refine sl_to (n := 1) (tpd.same A4) rfl fun b5 G5 z5 tb5 => ?_
      have dk5x := dk4x.same z5
      have A5 := A4.trans z5
      have T5 := T4.same z5
      walk_at "rdh"
      refine cat_t (tpd.same A5) tb5 (by simp only [List.length_take, tr3]; omega) fun b6 G6 z6 tb6 => ?_
      have dk6x := dk5x.same z6
      have A6 := A5.trans z6
      have T6 := (T5.same z6).add (goodT tb6 (by simp only [List.length_append, List.length_take, tr3]; omega) (by simp only [List.length_append, List.length_take, tr3]; omega) (fun e he => (List.mem_append.mp he).elim (trs e) (fun h => trs e (List.mem_of_mem_take h))))
      walk_at "rdh"
      refine r_new (by show 3 ≤ 1000; decide) fun p7 hp7 => ?_
      have z7 := Same.new (o := .tup [.int (L), .int (L), .int (L)]) hp7
      have g7 : Good d c (upd G6 p7 (.tup [.int (L), .int (L), .int (L)])) (.ref p7) := good3 upd_same (by omega) (by omega) (by omega)
      have T7 := (T6.same z7).add g7
      have dk7x := dk6x.same z7
      have A7 := A6.trans z7
      generalize upd G6 p7 (.tup [.int (L), .int (L), .int (L)]) = G7 at *
      walk_at "rdh"
      refine r_new (by show 3 ≤ 1000; decide) fun p8 hp8 => ?_
      have z8 := Same.new (o := .tup [.int (L), .int (L + 1), .int (L)]) hp8
      have g8 : Good d c (upd G7 p8 (.tup [.int (L), .int (L + 1), .int (L)])) (.ref p8) := good3 upd_same (by omega) (by omega) (by omega)
      have T8 := (T7.same z8).add g8
      have dk8x := dk7x.same z8
      have A8 := A7.trans z8
      generalize upd G7 p8 (.tup [.int (L), .int (L + 1), .int (L)]) = G8 at *
      walk_at "rdh"
      refine r_new (by show 12 ≤ 1000; decide) fun m1 hm1 => ?_
      have z9 := Same.new (o := .lst [.ref pd, .non, .bl true, .int 0, .str "", .ref p1, .ref p2, .ref p3, .ref b4, .ref b6, .ref p7, .ref p8]) hm1
      have lm1 := upd_same (H := G8) (a := m1) (o := HO.lst [.ref pd, .non, .bl true, .int 0, .str "", .ref p1, .ref p2, .ref p3, .ref b4, .ref b6, .ref p7, .ref p8])
      obtain ⟨m1d, m1c⟩ := fresh_ne dk8x hm1
      have T9 := T8.same z9
      have dk9x := dk8x.same z9
      have A9 := A8.trans z9
      generalize upd G8 m1 (.lst [.ref pd, .non, .bl true, .int 0, .str "", .ref p1, .ref p2, .ref p3, .ref b4, .ref b6, .ref p7, .ref p8]) = G9 at *
      have Ym2 := Same.refl G9
      walk_at "rdh"
      refine r_new (by show 3 ≤ 1000; decide) fun p10 hp10 => ?_
      have z10 := Same.new (o := .tup [.int (L), .int (L + 1), .int (L + 1)]) hp10
      have g10 : Good d c (upd G9 p10 (.tup [.int (L), .int (L + 1), .int (L + 1)])) (.ref p10) := good3 upd_same (by omega) (by omega) (by omega)
      have T10 := (T9.same z10).add g10
      have dk10x := dk9x.same z10
      have A10 := A9.trans z10
      generalize upd G9 p10 (.tup [.int (L), .int (L + 1), .int (L + 1)]) = G10 at *
      have Ym2 := Ym2.trans z10
      walk_at "rdh"
      refine r_new (by show 3 ≤ 1000; decide) fun p11 hp11 => ?_
      have z11 := Same.new (o := .tup [.int (L + 1), .int (L), .int (L)]) hp11
      have g11 : Good d c (upd G10 p11 (.tup [.int (L + 1), .int (L), .int (L)])) (.ref p11) := good3 upd_same (by omega) (by omega) (by omega)
      have T11 := (T10.same z11).add g11
      have dk11x := dk10x.same z11
      have A11 := A10.trans z11
      generalize upd G10 p11 (.tup [.int (L + 1), .int (L), .int (L)]) = G11 at *
      have Ym2 := Ym2.trans z11
      walk_at "rdh"
      refine r_new (by show 3 ≤ 1000; decide) fun p12 hp12 => ?_
      have z12 := Same.new (o := .tup [.int (L - 1), .int (L), .int (L)]) hp12
      have g12 : Good d c (upd G11 p12 (.tup [.int (L - 1), .int (L), .int (L)])) (.ref p12) := good3 upd_same (by omega) (by omega) (by omega)
      have T12 := (T11.same z12).add g12
      have dk12x := dk11x.same z12
      have A12 := A11.trans z12
      generalize upd G11 p12 (.tup [.int (L - 1), .int (L), .int (L)]) = G12 at *
      have Ym2 := Ym2.trans z12
      walk_at "rdh"
      refine r_new (by show 3 ≤ 1000; decide) fun p13 hp13 => ?_
      have z13 := Same.new (o := .tup [.int (L), .int (L + 2), .int (L + 1)]) hp13
      have g13 : Good d c (upd G12 p13 (.tup [.int (L), .int (L + 2), .int (L + 1)])) (.ref p13) := good3 upd_same (by omega) (by omega) (by omega)
      have T13 := (T12.same z13).add g13
      have dk13x := dk12x.same z13
      have A13 := A12.trans z13
      generalize upd G12 p13 (.tup [.int (L), .int (L + 2), .int (L + 1)]) = G13 at *
      have Ym2 := Ym2.trans z13
      walk_at "rdh"
      refine r_new (by show 4 ≤ 1000; decide) fun m2 hm2 => ?_
      have z14 := Same.new (o := .lst [.ref p10, .ref p11, .ref p12, .ref p13]) hm2
      have lm2 := upd_same (H := G13) (a := m2) (o := HO.lst [.ref p10, .ref p11, .ref p12, .ref p13])
      obtain ⟨m2d, m2c⟩ := fresh_ne dk13x hm2
      have T14 := T13.same z14
      have dk14x := dk13x.same z14
      have A14 := A13.trans z14
      generalize upd G13 m2 (.lst [.ref p10, .ref p11, .ref p12, .ref p13]) = G14 at *
      have Ym2 := Ym2.trans z14
      refine r_cat (Ym2 _ _ lm1) lm2 (by show _ + _ ≤ 100000; simp only [List.length_cons, List.length_nil]; omega) fun m3 hm3 => ?_
      have z15 := Same.new (o := .lst [.ref pd, .non, .bl true, .int 0, .str "", .ref p1, .ref p2, .ref p3, .ref b4, .ref b6, .ref p7, .ref p8, .ref p10, .ref p11, .ref p12, .ref p13]) hm3
      have lm3 := upd_same (H := G14) (a := m3) (o := HO.lst [.ref pd, .non, .bl true, .int 0, .str "", .ref p1, .ref p2, .ref p3, .ref b4, .ref b6, .ref p7, .ref p8, .ref p10, .ref p11, .ref p12, .ref p13])
      obtain ⟨m3d, m3c⟩ := fresh_ne dk14x hm3
      have T15 := T14.same z15
      have dk15x := dk14x.same z15
      have A15 := A14.trans z15
      show gName 13 (V.ref m3) _ (upd G14 m3 (.lst [.ref pd, .non, .bl true, .int 0, .str "", .ref p1, .ref p2, .ref p3, .ref b4, .ref b6, .ref p7, .ref p8, .ref p10, .ref p11, .ref p12, .ref p13])) _
      generalize upd G14 m3 (.lst [.ref pd, .non, .bl true, .int 0, .str "", .ref p1, .ref p2, .ref p3, .ref b4, .ref b6, .ref p7, .ref p8, .ref p10, .ref p11, .ref p12, .ref p13]) = G15 at *
      have Ym4 := Same.refl G15
      walk_at "rdh"
      refine r_new (by show 3 ≤ 1000; decide) fun p16 hp16 => ?_
      have z16 := Same.new (o := .tup [.int (L + 1), .int (L + 1), .int (L + 1)]) hp16
      have g16 : Good d c (upd G15 p16 (.tup [.int (L + 1), .int (L + 1), .int (L + 1)])) (.ref p16) := good3 upd_same (by omega) (by omega) (by omega)
      have T16 := (T15.same z16).add g16
      have dk16x := dk15x.same z16
      have A16 := A15.trans z16
      generalize upd G15 p16 (.tup [.int (L + 1), .int (L + 1), .int (L + 1)]) = G16 at *
      have Ym4 := Ym4.trans z16
      walk_at "rdh"
      refine r_new (by show 3 ≤ 1000; decide) fun p17 hp17 => ?_
      have z17 := Same.new (o := .tup [.int (L - 1), .int (L + 1), .int (L)]) hp17
      have g17 : Good d c (upd G16 p17 (.tup [.int (L - 1), .int (L + 1), .int (L)])) (.ref p17) := good3 upd_same (by omega) (by omega) (by omega)
      have T17 := (T16.same z17).add g17
      have dk17x := dk16x.same z17
      have A17 := A16.trans z17
      generalize upd G16 p17 (.tup [.int (L - 1), .int (L + 1), .int (L)]) = G17 at *
      have Ym4 := Ym4.trans z17
      walk_at "rdh"
      refine ⟨L, rfl, Nat.lt_of_lt_of_le (int300 (Nat.lt_of_lt_of_le bL (by decide))) (by decide), ?_⟩
      walk_at "rdh"
      refine r_new (by show 3 ≤ 1000; decide) fun p18 hp18 => ?_
      have z18 := Same.new (o := .tup [.str (Str.ofString (toString L)), .int L, .int L]) hp18
      have g18 : Good d c (upd G17 p18 (.tup [.str (Str.ofString (toString L)), .int L, .int L])) (.ref p18) := goodT (es := [.str L, .int L, .int L]) ⟨_, upd_same, .cons rfl (.cons rfl (.cons rfl .nil))⟩ (by show 3 ≤ 4; decide) (by show 3 ≠ 1; decide) sSmall
      have T18 := (T17.same z18).add g18
      have dk18x := dk17x.same z18
      have A18 := A17.trans z18
      generalize upd G17 p18 (.tup [.str (Str.ofString (toString L)), .int L, .int L]) = G18 at *
      have Ym4 := Ym4.trans z18
      walk_at "rdh"
      refine r_new (by show 3 ≤ 1000; decide) fun p19 hp19 => ?_
      have z19 := Same.new (o := .lst [.int L, .int L, .int L]) hp19
      have g19 : Good d c (upd G18 p19 (.lst [.int L, .int L, .int L])) (.ref p19) := ⟨.lst [L, L, L], ⟨p19, rfl, (fresh_ne dk18x hp19).1, (fresh_ne dk18x hp19).2, upd_same⟩, by show 3 ≤ 4; decide, fun z hz => by
        simp only [List.mem_cons, List.not_mem_nil, or_false] at hz
        rcases hz with rfl | rfl | rfl <;> omega⟩
      have T19 := (T18.same z19).add g19
      have dk19x := dk18x.same z19
      have A19 := A18.trans z19
      generalize upd G18 p19 (.lst [.int L, .int L, .int L]) = G19 at *
      have Ym4 := Ym4.trans z19
      walk_at "rdh"
      refine r_new (by show 4 ≤ 1000; decide) fun m4 hm4 => ?_
      have z20 := Same.new (o := .lst [.ref p16, .ref p17, .ref p18, .ref p19]) hm4
      have lm4 := upd_same (H := G19) (a := m4) (o := HO.lst [.ref p16, .ref p17, .ref p18, .ref p19])
      obtain ⟨m4d, m4c⟩ := fresh_ne dk19x hm4
      have T20 := T19.same z20
      have dk20x := dk19x.same z20
      have A20 := A19.trans z20
      generalize upd G19 m4 (.lst [.ref p16, .ref p17, .ref p18, .ref p19]) = G20 at *
      have Ym4 := Ym4.trans z20
      refine r_cat (Ym4 _ _ lm3) lm4 (by show _ + _ ≤ 100000; simp only [List.length_cons, List.length_nil]; omega) fun m5 hm5 => ?_
      have z21 := Same.new (o := .lst [.ref pd, .non, .bl true, .int 0, .str "", .ref p1, .ref p2, .ref p3, .ref b4, .ref b6, .ref p7, .ref p8, .ref p10, .ref p11, .ref p12, .ref p13, .ref p16, .ref p17, .ref p18, .ref p19]) hm5
      have lm5 := upd_same (H := G20) (a := m5) (o := HO.lst [.ref pd, .non, .bl true, .int 0, .str "", .ref p1, .ref p2, .ref p3, .ref b4, .ref b6, .ref p7, .ref p8, .ref p10, .ref p11, .ref p12, .ref p13, .ref p16, .ref p17, .ref p18, .ref p19])
      obtain ⟨m5d, m5c⟩ := fresh_ne dk20x hm5
      have T21 := T20.same z21
      have dk21x := dk20x.same z21
      have A21 := A20.trans z21
      show gName 13 (V.ref m5) _ (upd G20 m5 (.lst [.ref pd, .non, .bl true, .int 0, .str "", .ref p1, .ref p2, .ref p3, .ref b4, .ref b6, .ref p7, .ref p8, .ref p10, .ref p11, .ref p12, .ref p13, .ref p16, .ref p17, .ref p18, .ref p19])) _
      generalize upd G20 m5 (.lst [.ref pd, .non, .bl true, .int 0, .str "", .ref p1, .ref p2, .ref p3, .ref b4, .ref b6, .ref p7, .ref p8, .ref p10, .ref p11, .ref p12, .ref p13, .ref p16, .ref p17, .ref p18, .ref p19]) = G21 at *
      have S_ := A21
      have dk_ := dk21x
      have T_ : Ts d c G21 [.ref pd, .non, .bl true, .int 0, .str "", .ref p1, .ref p2, .ref p3, .ref b4, .ref b6, .ref p7, .ref p8, .ref p10, .ref p11, .ref p12, .ref p13, .ref p16, .ref p17, .ref p18, .ref p19] := T21
      walk_at "rdh"
      have lp0 : Lp T.C_Number d c here unit pd D m5 (Rat.divInt t b) (Rat.divInt c1 e1) L Hh Tk zs 0 G21 := ⟨dk_, hh12.same S_, hu12.same S_, S_ _ _ hd, S_ _ _ hz12, _, lm5, List.mem_cons_self .., by show 20 ≤ 20 + 0; decide, T_⟩
      refine r_forL ?_
      walk_at "rdh"
      refine ⟨D, rfl, ⟨_, SqL.of (S_ _ _ hz12)⟩, for_list (K := K) (a := D) (xs := zs.map V.int) (fun j σ H' => ∃ w14 w15 w16 w17 : Option V, σ = [some (.ref a), some (.ref d), some (.int (0 + (i : Int))), some (.str (wname r)), some (.ref D), some (.ref g), some (.ref n), some (.ref here), some (.ref unit), some (.int L), some (.int R), some (.int (b * c1)), some (.ref pd), some (.ref m5), w14, w15, w16, w17] ∧ Lp T.C_Number d c here unit pd D m5 (Rat.divInt t b) (Rat.divInt c1 e1) L Hh Tk zs j H')
        ⟨_, _, _, _, rfl, lp0⟩ (fun j σ H' _ ⟨_, _, _, _, _, lp⟩ => SqL.of lp.hz) ?_ ?_⟩
      · rintro j z σ H13 hzj ⟨w14, w15, w16, w17, rfl, lp⟩
        have jl : j < 8 := by
          have := (List.getElem?_eq_some_iff.mp hzj).1
          rw [List.length_map, lz] at this
          exact this
        obtain ⟨zi, rfl, _⟩ := int_of (List.mem_of_getElem? hzj)
        walk_at "rdh"
        refine ⟨d, c, pd, L, Hh, Tk, rfl, lp.dk, lp.hd, by omega, by omega, by omega, fun v th H14 o14 dk14 ht14 hf14 => ?_⟩
        have lp14 := lp.off Dd Dc m5d m5c o14 dk14
        walk_at "rdh"
        refine r_cut (fun σ' H' => ∃ (v : V) (w14 w16 w17 : Option V), σ' = [some (.ref a), some (.ref d), some (.int (0 + (i : Int))), some (.str (wname r)), some (.ref D), some (.ref g), some (.ref n), some (.ref here), some (.ref unit), some (.int L), some (.int R), some (.int (b * c1)), some (.ref pd), some (.ref m5), w14, some v, w16, w17] ∧ Lp T.C_Number d c here unit pd D m5 (Rat.divInt t b) (Rat.divInt c1 e1) L Hh Tk zs j H' ∧ Good d c H' v) ?_ ?_
        · have g14 : Good d c H14 v := ⟨th, ht14, hf14⟩
          walk_at "rdh"
          refine r_ite (fun e1 => ?_) (fun e1 => ?_)
          rotate_left
          · walk_at "rdh"
            exact ⟨_, _, _, _, rfl, lp14, g14⟩
          walk_at "rdh"
          refine ty_th ht14 ?_
          walk_at "rdh"
          refine r_ite (fun e2 => ?_) (fun e2 => ?_)
          rotate_left
          · walk_at "rdh"
            exact ⟨_, _, _, _, rfl, lp14, g14⟩
          obtain ⟨es, rfl⟩ : ∃ es, th = .tup es := by cases th <;> first | exact ⟨_, rfl⟩ | cases e2
          obtain ⟨pb, vb, rfl, hpb, heb⟩ := ht14
          obtain ⟨_, _, smb⟩ := hf14
          have lenb := heb.len
          walk_at "rdh"
          refine ⟨pb, _, rfl, .inr (SqT.of hpb), ?_⟩
          walk_at "rdh"
          refine r_ite (fun e3 => ?_) (fun e3 => ?_)
          rotate_left
          · walk_at "rdh"
            exact ⟨_, _, _, _, rfl, lp14, g14⟩
          have lb3 : vb.length = 3 := by
            have : ((vb.length : Nat) : Int) = 3 := of_decide_eq_true e3
            omega
          have les : es.length = 3 := by omega
          obtain ⟨vb0, hvb0⟩ : ∃ v0, vb[0]? = some v0 := ⟨vb[0], List.getElem?_eq_getElem (by omega)⟩
          obtain ⟨e0, he0, hat0⟩ := heb.get hvb0
          walk_at "rdh"
          refine r_ixT hpb (atI_nat (j := 0) hvb0) ?_
          walk_at "rdh"
          refine ty_el hat0 ?_
          walk_at "rdh"
          refine r_ite (fun e4 => ?_) (fun e4 => ?_)
          rotate_left
          · walk_at "rdh"
            exact ⟨_, _, _, _, rfl, lp14, g14⟩
          have tp14 : TupAt d c H14 pb es := ⟨_, hpb, heb⟩
          walk_at "rdh"
          refine sl_to (n := 1) tp14 rfl fun bb1 H15 s15 tbb1 => ?_
          walk_at "rdh"
          refine rd_draw (dk14.same s15) (by decide) (by decide) fun qq H16 o16 dk16 qq0 qq1 => ?_
          have lp16 := (lp14.off Dd Dc m5d m5c (Off.of s15) (dk14.same s15)).off Dd Dc m5d m5c o16 dk16
          have tbb16 := tbb1.off o16 (dk14.same s15)
          have tp16 := (tp14.same s15).off o16 (dk14.same s15)
          walk_at "rdh"
          refine r_new (by show 1 ≤ 1000; decide) fun p4 hp4 => ?_
          have z4 := Same.new (o := .tup [.int (L + qq)]) hp4
          have t4 : TupAt d c (upd H16 p4 (.tup [.int (L + qq)])) p4 [.int (L + qq)] := ⟨_, upd_same, .cons rfl .nil⟩
          walk_at "rdh"
          refine cat_t (tbb16.same z4) t4 (by simp only [List.length_take, List.length_cons, List.length_nil, les]; omega) fun x1 H17 z5 tx1 => ?_
          walk_at "rdh"
          refine sl_from (n := 2) ((tp16.same z4).same z5) rfl fun bb2 H18 z6 tbb2 => ?_
          walk_at "rdh"
          refine cat_t (tx1.same z6) tbb2 (by simp only [List.length_append, List.length_take, List.length_drop, List.length_cons, List.length_nil, les]; omega) fun x2 H19 z7 tx2 => ?_
          walk_at "rdh"
          have zF := ((z4.trans z5).trans z6).trans z7
          refine ⟨_, _, _, _, rfl, lp16.off Dd Dc m5d m5c (Off.of zF) (dk16.same zF), goodT tx2 (by simp only [List.length_append, List.length_take, List.length_drop, List.length_cons, List.length_nil, les]; omega) (by simp only [List.length_append, List.length_take, List.length_drop, List.length_cons, List.length_nil, les]; omega) (fun e he => ?_)⟩
          rcases List.mem_append.mp he with he | he
          · rcases List.mem_append.mp he with he | he
            · exact smb e (List.mem_of_mem_take he)
            · obtain rfl := List.mem_singleton.mp he
              show Int.natAbs _ < 2 ^ 300
              omega
          · exact smb e (List.mem_of_mem_drop he)
        · rintro σ' H15 ⟨v, w14, w16, w17, rfl, lp15, g15⟩
          obtain ⟨vs, hm15, hp15, lv15, ts15⟩ := lp15.ln
          walk_at "rdh"
          refine ⟨ty_list hm15, ?_⟩
          walk_at "rdh"
          refine r_append' hm15 (by omega) ?_
          walk_at "rdh"
          exact ⟨_, _, _, _, rfl, lp15.grow m5d m5c hm15 hp15 lv15 ts15 g15⟩
      rintro σ H13 ⟨w14, w15, w16, w17, rfl, lp⟩
      obtain ⟨vs, hm, hpm, lv, ts⟩ := lp.ln
      rw [List.length_map, lz] at lv
      walk_at "rdh"
      refine r_lcL ?_
      walk_at "rdh"
      refine r_new (by show 1 ≤ 1000; decide) fun q hq => ?_
      have sq := Same.new (o := .lst [.ref pd]) hq
      refine r_cat (sq _ _ hm) upd_same (by rw [List.length_singleton]; omega) fun z hz' => ?_
      have sz := sq.trans (Same.new (o := .lst (vs ++ [.ref pd])) hz')
      have hZ := upd_same (H := upd H13 q (.lst [.ref pd])) (a := z) (o := HO.lst (vs ++ [.ref pd]))
      have okz : Ts d c (upd (upd H13 q (.lst [.ref pd])) z (.lst (vs ++ [.ref pd]))) (vs ++ [.ref pd]) := (ts.add (ts _ hpm)).same sz
      generalize upd (upd H13 q (.lst [.ref pd])) z (.lst (vs ++ [.ref pd])) = H14 at *
      refine ⟨z, rfl, ⟨_, SqL.of hZ⟩, fun D2 hD2 => lc_list (K := K) (a := z) (xs := vs ++ [.ref pd]) (fun j H' => Same H14 H' ∧ H' D2 = some (.lst []))
        ⟨Same.new hD2, upd_same⟩ (fun j H' _ ⟨s, _⟩ => SqL.of (s _ _ hZ)) ?_ ?_⟩
      · rintro j y H15 hy ⟨s15, hD15⟩
        obtain ⟨th, hth, hf⟩ := (okz y (List.mem_of_getElem? hy)).same s15
        have s1315 := sz.trans s15
        walk_at "rdh"
        refine ⟨rfl, ?_⟩
        walk_at "rdh"
        refine ⟨here, unit, d, c, pd, _, _, r, y, th, rfl, lp.hh.same s1315, lp.hu.same s1315, bx.mono (by decide), by'.mono (by decide), y0, ?_, ?_, ?_, ?_, hth, hf, fun H16 s16 => ?_⟩
        · rw [fl, hi', hTk]
          exact s1315 _ _ lp.hd
        · rw [fl]; omega
        · rw [hi']; omega
        · rw [hTk]; omega
        · walk_at "rdh"
          refine r_iteF rfl ?_
          exact ⟨s15.trans s16, s16 _ _ hD15⟩
      · rintro H15 ⟨s15, hD15⟩
        walk_at "rdh"
        refine r_new (by show 0 ≤ 1000; decide) fun e he => ?_
        refine ⟨.list [], .list [], .lst (SqL.of (xs := []) (Same.new he _ _ hD15)) .nil, .lst (SqL.of (xs := []) upd_same) .nil, by decide +kernel, by decide +kernel, ?_⟩
        rw [show PyData.eqv (.list []) (.list []) = true by decide +kernel]
        walk_at "rdh"
        refine r_iteF rfl ?_
        walk_at "rdh"
        exact ⟨_, _, _, _, _, _, _, _, _, _, _, _, _, _, _, _, rfl, (lp.dk.same (sz.trans s15)).same (Same.new he)⟩
    · rintro σ H2 ⟨v2, v3, v4, v5, v6, v7, v8, v9, v10, v11, v12, v13, v14, v15, v16, v17, rfl, dk2⟩
      walk_at "rdh"
      exact k _
end
end My

namespace My
open PySem L2
theorem kit_self {K : PySem.W.Frag} {C : Addr} : PySem.W.kitOne K (.ref C) (.ref C) = some true := if_pos (by simp)
theorem bi_Number_init {K : PySem.W.Frag} {f : Addr} {fd : FuncData} (F : FunD K "__init__" "Number.__init__" (defArgs s_Number_init) (defBody s_Number_init) (defScope s_Number_init) [V.int 1] [] f fd) :
    Binds K fd ["self", "top", "bottom"] [] ∧ ∃ ds : List Value, Vals [V.int 1] ds ∧ Binds K fd ["self", "top", "bottom"] ds := by
  constructor
  · obtain ⟨ds, r, b⟩ := F.binds1 (ps := ["self", "top", "bottom"]) 3 1 (by simp) rfl fun T kV doc pm an cdv ct us its h1 h2 => match us, its, h1, h2 with | [_, _, _], [_], _, _ => ⟨_, rfl, rfl⟩
    cases r
    exact b
  · exact F.binds1 (ps := ["self", "top", "bottom"]) 2 0 (by simp) rfl fun T kV doc pm an cdv ct us its h1 h2 => match us, its, h1, h2 with | [_, _], [_], _, _ => ⟨_, rfl, rfl⟩
theorem all_mk {l : PySem.W.OpenLaw} {w : World} {K : PySem.W.Frag} {h : Heap} {mg : Str → Option Value} {fa : Addr} (X : K.In h) (G : h.Ns mainGlobals mg) (hfa : mg "law" = some (.ref fa))
    {C_Number : Addr}
    {f_is_whole : Addr} {od_is_whole an_is_whole : Option Addr} {sl_is_whole : Array (Option Value)} {oc_is_whole dc_is_whole pm_is_whole cd_is_whole ct_is_whole : Value}
    {kV_is_whole : Value}
    {f_round_holds : Addr} {od_round_holds an_round_holds : Option Addr} {sl_round_holds : Array (Option Value)} {oc_round_holds dc_round_holds pm_round_holds cd_round_holds ct_round_holds : Value}
    {kV_round_holds : Value}
    {f_are_neighbours : Addr} {od_are_neighbours an_are_neighbours : Option Addr} {sl_are_neighbours : Array (Option Value)} {oc_are_neighbours dc_are_neighbours pm_are_neighbours cd_are_neighbours ct_are_neighbours : Value}
    {kV_are_neighbours : Value}
    {f_goes_to : Addr} {od_goes_to an_goes_to : Option Addr} {sl_goes_to : Array (Option Value)} {oc_goes_to dc_goes_to pm_goes_to cd_goes_to ct_goes_to : Value}
    {kV_goes_to : Value}
    {f_is_from_nought : Addr} {od_is_from_nought an_is_from_nought : Option Addr} {sl_is_from_nought : Array (Option Value)} {oc_is_from_nought dc_is_from_nought pm_is_from_nought cd_is_from_nought ct_is_from_nought : Value}
    {kV_is_from_nought : Value}
    {f_is_to_nought : Addr} {od_is_to_nought an_is_to_nought : Option Addr} {sl_is_to_nought : Array (Option Value)} {oc_is_to_nought dc_is_to_nought pm_is_to_nought cd_is_to_nought ct_is_to_nought : Value}
    {kV_is_to_nought : Value}
    {f_is_greater : Addr} {od_is_greater an_is_greater : Option Addr} {sl_is_greater : Array (Option Value)} {oc_is_greater dc_is_greater pm_is_greater cd_is_greater ct_is_greater : Value}
    {kV_is_greater : Value}
    {f_is_lesser : Addr} {od_is_lesser an_is_lesser : Option Addr} {sl_is_lesser : Array (Option Value)} {oc_is_lesser dc_is_lesser pm_is_lesser cd_is_lesser ct_is_lesser : Value}
    {kV_is_lesser : Value}
    {f_is_even : Addr} {od_is_even an_is_even : Option Addr} {sl_is_even : Array (Option Value)} {oc_is_even dc_is_even pm_is_even cd_is_even ct_is_even : Value}
    {kV_is_even : Value}
    {f_is_odd : Addr} {od_is_odd an_is_odd : Option Addr} {sl_is_odd : Array (Option Value)} {oc_is_odd dc_is_odd pm_is_odd cd_is_odd ct_is_odd : Value}
    {kV_is_odd : Value}
    {f_Number_init : Addr} {od_Number_init an_Number_init : Option Addr} {sl_Number_init : Array (Option Value)} {oc_Number_init dc_Number_init pm_Number_init cd_Number_init ct_Number_init : Value}
    {kV_Number_init : Value}
    {Td_Number_init : Addr} {cT_Number_init : Value} {dT_Number_init : Option Addr} {nT_Number_init : Nat} {sT_Number_init : Array (Option Value)} {tk_Number_init : Tok}
    {f_Number_eq : Addr} {od_Number_eq an_Number_eq : Option Addr} {sl_Number_eq : Array (Option Value)} {oc_Number_eq dc_Number_eq pm_Number_eq cd_Number_eq ct_Number_eq : Value}
    {kV_Number_eq : Value}
    {f_Number_over : Addr} {od_Number_over an_Number_over : Option Addr} {sl_Number_over : Array (Option Value)} {oc_Number_over dc_Number_over pm_Number_over cd_Number_over ct_Number_over : Value}
    {kV_Number_over : Value}
    {f_l_deck : Addr} {od_l_deck an_l_deck : Option Addr} {sl_l_deck : Array (Option Value)} {oc_l_deck dc_l_deck pm_l_deck cd_l_deck ct_l_deck : Value}
    {kV_l_deck : Value}
    {f_l_draw : Addr} {od_l_draw an_l_draw : Option Addr} {sl_l_draw : Array (Option Value)} {oc_l_draw dc_l_draw pm_l_draw cd_l_draw ct_l_draw : Value}
    {kV_l_draw : Value}
    {f_l_grain : Addr} {od_l_grain an_l_grain : Option Addr} {sl_l_grain : Array (Option Value)} {oc_l_grain dc_l_grain pm_l_grain cd_l_grain ct_l_grain : Value}
    {kV_l_grain : Value}
    {f_l_near : Addr} {od_l_near an_l_near : Option Addr} {sl_l_near : Array (Option Value)} {oc_l_near dc_l_near pm_l_near cd_l_near ct_l_near : Value}
    {kV_l_near : Value}
    {f_l_steps : Addr} {od_l_steps an_l_steps : Option Addr} {sl_l_steps : Array (Option Value)} {oc_l_steps dc_l_steps pm_l_steps cd_l_steps ct_l_steps : Value}
    {kV_l_steps : Value}
    {f_l_count : Addr} {od_l_count an_l_count : Option Addr} {sl_l_count : Array (Option Value)} {oc_l_count dc_l_count pm_l_count cd_l_count ct_l_count : Value}
    {kV_l_count : Value}
    {f_l_other : Addr} {od_l_other an_l_other : Option Addr} {sl_l_other : Array (Option Value)} {oc_l_other dc_l_other pm_l_other cd_l_other ct_l_other : Value}
    {kV_l_other : Value}
    {f_l_right : Addr} {od_l_right an_l_right : Option Addr} {sl_l_right : Array (Option Value)} {oc_l_right dc_l_right pm_l_right cd_l_right ct_l_right : Value}
    {kV_l_right : Value}
    {f_law : Addr} {od_law an_law : Option Addr} {sl_law : Array (Option Value)} {oc_law dc_law pm_law cd_law ct_law : Value}
    {kV_law : Value}
    {A_WAYS : Addr} {dW : Option Addr} {nW : Nat} {sW : Array (Option Value)} {tW0 tW1 tW2 tW3 tW4 tW5 tW6 tW7 : Tok}
    {D_CHECKS : Addr} {es_CHECKS : Array DictEntry} {en_CHECKS : Nat}
    (aC_Number : PySem.W.nsIn K mainGlobals "Number" = some (some (.ref C_Number)))
    (pg_Number : PySem.W.plainGet K C_Number Str.empty = true)
    (hd_Number : PySem.W.hasDictIn K C_Number = true)
    (po_Number : PySem.W.plainOver K C_Number = true)
    (sa_Number : PySem.W.findIn K (.ref C_Number) "__setattr__" = some (some (.builtin "object.__setattr__")))
    (nf_Number_top : PySem.W.findIn K (.ref C_Number) "top" = some none)
    (nf_Number_bottom : PySem.W.findIn K (.ref C_Number) "bottom" = some none)
    (tc_Number : PySem.W.findIn K (.ref C_Number) "__class__" = some (some (.builtin "object.__class__")))
    (tg_Number : PySem.W.specialIn K (.builtin "object.__class__") "__get__" = some (some (.builtin "getset_descriptor.__get__")))
    (tt_Number : PySem.W.takesIn K (.builtin "object.__class__") = some true)
    (tm_Number : PySem.W.mroIn K C_Number (.type "object") = some true)
    (nn_Number : PySem.W.findIn K (.ref C_Number) "__ne__" = some (some (.builtin "object.__ne__")))
    (mi_Number : PySem.W.makesIn K C_Number = true)
    (kc_Number : PySem.W.keepIn K (.ref C_Number) = true)
    (a_is_whole : PySem.W.nsIn K mainGlobals "is_whole" = some (some (.ref f_is_whole)))
    (l_is_whole : K.lookup f_is_whole = some ⟨oc_is_whole, od_is_whole, .func (PySem.W.fnOf "is_whole" "is_whole" (defArgs s_is_whole) (defBody s_is_whole) (defScope s_is_whole) .none kV_is_whole dc_is_whole pm_is_whole an_is_whole cd_is_whole ct_is_whole), sl_is_whole⟩)
    (c_is_whole : PySem.W.codeIn K cd_is_whole "is_whole" = true)
    (k_is_whole : PySem.W.keepIn K (.ref f_is_whole) = true)
    (a_round_holds : PySem.W.nsIn K mainGlobals "round_holds" = some (some (.ref f_round_holds)))
    (l_round_holds : K.lookup f_round_holds = some ⟨oc_round_holds, od_round_holds, .func (PySem.W.fnOf "round_holds" "round_holds" (defArgs s_round_holds) (defBody s_round_holds) (defScope s_round_holds) .none kV_round_holds dc_round_holds pm_round_holds an_round_holds cd_round_holds ct_round_holds), sl_round_holds⟩)
    (c_round_holds : PySem.W.codeIn K cd_round_holds "round_holds" = true)
    (k_round_holds : PySem.W.keepIn K (.ref f_round_holds) = true)
    (a_are_neighbours : PySem.W.nsIn K mainGlobals "_are_neighbours" = some (some (.ref f_are_neighbours)))
    (l_are_neighbours : K.lookup f_are_neighbours = some ⟨oc_are_neighbours, od_are_neighbours, .func (PySem.W.fnOf "_are_neighbours" "_are_neighbours" (defArgs s_are_neighbours) (defBody s_are_neighbours) (defScope s_are_neighbours) .none kV_are_neighbours dc_are_neighbours pm_are_neighbours an_are_neighbours cd_are_neighbours ct_are_neighbours), sl_are_neighbours⟩)
    (c_are_neighbours : PySem.W.codeIn K cd_are_neighbours "_are_neighbours" = true)
    (k_are_neighbours : PySem.W.keepIn K (.ref f_are_neighbours) = true)
    (a_goes_to : PySem.W.nsIn K mainGlobals "_goes_to" = some (some (.ref f_goes_to)))
    (l_goes_to : K.lookup f_goes_to = some ⟨oc_goes_to, od_goes_to, .func (PySem.W.fnOf "_goes_to" "_goes_to" (defArgs s_goes_to) (defBody s_goes_to) (defScope s_goes_to) .none kV_goes_to dc_goes_to pm_goes_to an_goes_to cd_goes_to ct_goes_to), sl_goes_to⟩)
    (c_goes_to : PySem.W.codeIn K cd_goes_to "_goes_to" = true)
    (k_goes_to : PySem.W.keepIn K (.ref f_goes_to) = true)
    (a_is_from_nought : PySem.W.nsIn K mainGlobals "_is_from_nought" = some (some (.ref f_is_from_nought)))
    (l_is_from_nought : K.lookup f_is_from_nought = some ⟨oc_is_from_nought, od_is_from_nought, .func (PySem.W.fnOf "_is_from_nought" "_is_from_nought" (defArgs s_is_from_nought) (defBody s_is_from_nought) (defScope s_is_from_nought) .none kV_is_from_nought dc_is_from_nought pm_is_from_nought an_is_from_nought cd_is_from_nought ct_is_from_nought), sl_is_from_nought⟩)
    (c_is_from_nought : PySem.W.codeIn K cd_is_from_nought "_is_from_nought" = true)
    (k_is_from_nought : PySem.W.keepIn K (.ref f_is_from_nought) = true)
    (a_is_to_nought : PySem.W.nsIn K mainGlobals "_is_to_nought" = some (some (.ref f_is_to_nought)))
    (l_is_to_nought : K.lookup f_is_to_nought = some ⟨oc_is_to_nought, od_is_to_nought, .func (PySem.W.fnOf "_is_to_nought" "_is_to_nought" (defArgs s_is_to_nought) (defBody s_is_to_nought) (defScope s_is_to_nought) .none kV_is_to_nought dc_is_to_nought pm_is_to_nought an_is_to_nought cd_is_to_nought ct_is_to_nought), sl_is_to_nought⟩)
    (c_is_to_nought : PySem.W.codeIn K cd_is_to_nought "_is_to_nought" = true)
    (k_is_to_nought : PySem.W.keepIn K (.ref f_is_to_nought) = true)
    (a_is_greater : PySem.W.nsIn K mainGlobals "_is_greater" = some (some (.ref f_is_greater)))
    (l_is_greater : K.lookup f_is_greater = some ⟨oc_is_greater, od_is_greater, .func (PySem.W.fnOf "_is_greater" "_is_greater" (defArgs s_is_greater) (defBody s_is_greater) (defScope s_is_greater) .none kV_is_greater dc_is_greater pm_is_greater an_is_greater cd_is_greater ct_is_greater), sl_is_greater⟩)
    (c_is_greater : PySem.W.codeIn K cd_is_greater "_is_greater" = true)
    (k_is_greater : PySem.W.keepIn K (.ref f_is_greater) = true)
    (a_is_lesser : PySem.W.nsIn K mainGlobals "_is_lesser" = some (some (.ref f_is_lesser)))
    (l_is_lesser : K.lookup f_is_lesser = some ⟨oc_is_lesser, od_is_lesser, .func (PySem.W.fnOf "_is_lesser" "_is_lesser" (defArgs s_is_lesser) (defBody s_is_lesser) (defScope s_is_lesser) .none kV_is_lesser dc_is_lesser pm_is_lesser an_is_lesser cd_is_lesser ct_is_lesser), sl_is_lesser⟩)
    (c_is_lesser : PySem.W.codeIn K cd_is_lesser "_is_lesser" = true)
    (k_is_lesser : PySem.W.keepIn K (.ref f_is_lesser) = true)
    (a_is_even : PySem.W.nsIn K mainGlobals "_is_even" = some (some (.ref f_is_even)))
    (l_is_even : K.lookup f_is_even = some ⟨oc_is_even, od_is_even, .func (PySem.W.fnOf "_is_even" "_is_even" (defArgs s_is_even) (defBody s_is_even) (defScope s_is_even) .none kV_is_even dc_is_even pm_is_even an_is_even cd_is_even ct_is_even), sl_is_even⟩)
    (c_is_even : PySem.W.codeIn K cd_is_even "_is_even" = true)
    (k_is_even : PySem.W.keepIn K (.ref f_is_even) = true)
    (a_is_odd : PySem.W.nsIn K mainGlobals "_is_odd" = some (some (.ref f_is_odd)))
    (l_is_odd : K.lookup f_is_odd = some ⟨oc_is_odd, od_is_odd, .func (PySem.W.fnOf "_is_odd" "_is_odd" (defArgs s_is_odd) (defBody s_is_odd) (defScope s_is_odd) .none kV_is_odd dc_is_odd pm_is_odd an_is_odd cd_is_odd ct_is_odd), sl_is_odd⟩)
    (c_is_odd : PySem.W.codeIn K cd_is_odd "_is_odd" = true)
    (k_is_odd : PySem.W.keepIn K (.ref f_is_odd) = true)
    (a_Number_init : PySem.W.findIn K (.ref C_Number) "__init__" = some (some (.ref f_Number_init)))
    (i_Number_init : PySem.W.isFn K (.ref f_Number_init) = true)
    (l_Number_init : K.lookup f_Number_init = some ⟨oc_Number_init, od_Number_init, .func (PySem.W.fnOf "__init__" "Number.__init__" (defArgs s_Number_init) (defBody s_Number_init) (defScope s_Number_init) (.ref Td_Number_init) kV_Number_init dc_Number_init pm_Number_init an_Number_init cd_Number_init ct_Number_init), sl_Number_init⟩)
    (c_Number_init : PySem.W.codeIn K cd_Number_init "Number.__init__" = true)
    (k_Number_init : PySem.W.keepIn K (.ref f_Number_init) = true)
    (T_Number_init : K.lookup Td_Number_init = some ⟨cT_Number_init, dT_Number_init, .seq #[.int 1 tk_Number_init] nT_Number_init, sT_Number_init⟩)
    (a_Number_eq : PySem.W.findIn K (.ref C_Number) "__eq__" = some (some (.ref f_Number_eq)))
    (i_Number_eq : PySem.W.isFn K (.ref f_Number_eq) = true)
    (l_Number_eq : K.lookup f_Number_eq = some ⟨oc_Number_eq, od_Number_eq, .func (PySem.W.fnOf "__eq__" "Number.__eq__" (defArgs s_Number_eq) (defBody s_Number_eq) (defScope s_Number_eq) .none kV_Number_eq dc_Number_eq pm_Number_eq an_Number_eq cd_Number_eq ct_Number_eq), sl_Number_eq⟩)
    (c_Number_eq : PySem.W.codeIn K cd_Number_eq "Number.__eq__" = true)
    (k_Number_eq : PySem.W.keepIn K (.ref f_Number_eq) = true)
    (a_Number_over : PySem.W.findIn K (.ref C_Number) "over" = some (some (.ref f_Number_over)))
    (i_Number_over : PySem.W.isFn K (.ref f_Number_over) = true)
    (l_Number_over : K.lookup f_Number_over = some ⟨oc_Number_over, od_Number_over, .func (PySem.W.fnOf "over" "Number.over" (defArgs s_Number_over) (defBody s_Number_over) (defScope s_Number_over) .none kV_Number_over dc_Number_over pm_Number_over an_Number_over cd_Number_over ct_Number_over), sl_Number_over⟩)
    (c_Number_over : PySem.W.codeIn K cd_Number_over "Number.over" = true)
    (k_Number_over : PySem.W.keepIn K (.ref f_Number_over) = true)
    (a_l_deck : PySem.W.nsIn K mainGlobals "_law_deck" = some (some (.ref f_l_deck)))
    (l_l_deck : K.lookup f_l_deck = some ⟨oc_l_deck, od_l_deck, .func (PySem.W.fnOf "_law_deck" "_law_deck" (defArgs s_l_deck) (defBody s_l_deck) (defScope s_l_deck) .none kV_l_deck dc_l_deck pm_l_deck an_l_deck cd_l_deck ct_l_deck), sl_l_deck⟩)
    (c_l_deck : PySem.W.codeIn K cd_l_deck "_law_deck" = true)
    (k_l_deck : PySem.W.keepIn K (.ref f_l_deck) = true)
    (a_l_draw : PySem.W.nsIn K mainGlobals "_law_draw" = some (some (.ref f_l_draw)))
    (l_l_draw : K.lookup f_l_draw = some ⟨oc_l_draw, od_l_draw, .func (PySem.W.fnOf "_law_draw" "_law_draw" (defArgs s_l_draw) (defBody s_l_draw) (defScope s_l_draw) .none kV_l_draw dc_l_draw pm_l_draw an_l_draw cd_l_draw ct_l_draw), sl_l_draw⟩)
    (c_l_draw : PySem.W.codeIn K cd_l_draw "_law_draw" = true)
    (k_l_draw : PySem.W.keepIn K (.ref f_l_draw) = true)
    (a_l_grain : PySem.W.nsIn K mainGlobals "_law_grain" = some (some (.ref f_l_grain)))
    (l_l_grain : K.lookup f_l_grain = some ⟨oc_l_grain, od_l_grain, .func (PySem.W.fnOf "_law_grain" "_law_grain" (defArgs s_l_grain) (defBody s_l_grain) (defScope s_l_grain) .none kV_l_grain dc_l_grain pm_l_grain an_l_grain cd_l_grain ct_l_grain), sl_l_grain⟩)
    (c_l_grain : PySem.W.codeIn K cd_l_grain "_law_grain" = true)
    (k_l_grain : PySem.W.keepIn K (.ref f_l_grain) = true)
    (a_l_near : PySem.W.nsIn K mainGlobals "_law_near" = some (some (.ref f_l_near)))
    (l_l_near : K.lookup f_l_near = some ⟨oc_l_near, od_l_near, .func (PySem.W.fnOf "_law_near" "_law_near" (defArgs s_l_near) (defBody s_l_near) (defScope s_l_near) .none kV_l_near dc_l_near pm_l_near an_l_near cd_l_near ct_l_near), sl_l_near⟩)
    (c_l_near : PySem.W.codeIn K cd_l_near "_law_near" = true)
    (k_l_near : PySem.W.keepIn K (.ref f_l_near) = true)
    (a_l_steps : PySem.W.nsIn K mainGlobals "_law_steps" = some (some (.ref f_l_steps)))
    (l_l_steps : K.lookup f_l_steps = some ⟨oc_l_steps, od_l_steps, .func (PySem.W.fnOf "_law_steps" "_law_steps" (defArgs s_l_steps) (defBody s_l_steps) (defScope s_l_steps) .none kV_l_steps dc_l_steps pm_l_steps an_l_steps cd_l_steps ct_l_steps), sl_l_steps⟩)
    (c_l_steps : PySem.W.codeIn K cd_l_steps "_law_steps" = true)
    (k_l_steps : PySem.W.keepIn K (.ref f_l_steps) = true)
    (a_l_count : PySem.W.nsIn K mainGlobals "_law_count" = some (some (.ref f_l_count)))
    (l_l_count : K.lookup f_l_count = some ⟨oc_l_count, od_l_count, .func (PySem.W.fnOf "_law_count" "_law_count" (defArgs s_l_count) (defBody s_l_count) (defScope s_l_count) .none kV_l_count dc_l_count pm_l_count an_l_count cd_l_count ct_l_count), sl_l_count⟩)
    (c_l_count : PySem.W.codeIn K cd_l_count "_law_count" = true)
    (k_l_count : PySem.W.keepIn K (.ref f_l_count) = true)
    (a_l_other : PySem.W.nsIn K mainGlobals "_law_other" = some (some (.ref f_l_other)))
    (l_l_other : K.lookup f_l_other = some ⟨oc_l_other, od_l_other, .func (PySem.W.fnOf "_law_other" "_law_other" (defArgs s_l_other) (defBody s_l_other) (defScope s_l_other) .none kV_l_other dc_l_other pm_l_other an_l_other cd_l_other ct_l_other), sl_l_other⟩)
    (c_l_other : PySem.W.codeIn K cd_l_other "_law_other" = true)
    (k_l_other : PySem.W.keepIn K (.ref f_l_other) = true)
    (a_l_right : PySem.W.nsIn K mainGlobals "_law_right" = some (some (.ref f_l_right)))
    (l_l_right : K.lookup f_l_right = some ⟨oc_l_right, od_l_right, .func (PySem.W.fnOf "_law_right" "_law_right" (defArgs s_l_right) (defBody s_l_right) (defScope s_l_right) .none kV_l_right dc_l_right pm_l_right an_l_right cd_l_right ct_l_right), sl_l_right⟩)
    (c_l_right : PySem.W.codeIn K cd_l_right "_law_right" = true)
    (k_l_right : PySem.W.keepIn K (.ref f_l_right) = true)
    (a_law : PySem.W.nsIn K mainGlobals "law" = some (some (.ref f_law)))
    (l_law : K.lookup f_law = some ⟨oc_law, od_law, .func (PySem.W.fnOf "law" "law" (defArgs s_law) (defBody s_law) (defScope s_law) .none kV_law dc_law pm_law an_law cd_law ct_law), sl_law⟩)
    (c_law : PySem.W.codeIn K cd_law "law" = true)
    (k_law : PySem.W.keepIn K (.ref f_law) = true)
    (a_gcd : PySem.W.nsIn K mainGlobals "gcd" = some (some (.builtin "math.gcd")))
    (z_range : PySem.W.nsIn K mainGlobals "range" = some none)
    (z_isinstance : PySem.W.nsIn K mainGlobals "isinstance" = some none)
    (z_str : PySem.W.nsIn K mainGlobals "str" = some none)
    (z_int : PySem.W.nsIn K mainGlobals "int" = some none)
    (z_list : PySem.W.nsIn K mainGlobals "list" = some none)
    (z_len : PySem.W.nsIn K mainGlobals "len" = some none)
    (z_abs : PySem.W.nsIn K mainGlobals "abs" = some none)
    (z_max : PySem.W.nsIn K mainGlobals "max" = some none)
    (z_bool : PySem.W.nsIn K mainGlobals "bool" = some none)
    (z_repr : PySem.W.nsIn K mainGlobals "repr" = some none)
    (z_tuple : PySem.W.nsIn K mainGlobals "tuple" = some none)
    (z_all : PySem.W.nsIn K mainGlobals "all" = some none)
    (a_WAYS : PySem.W.nsIn K mainGlobals "WAYS" = some (some (.ref A_WAYS)))
    (l_WAYS : K.lookup A_WAYS = some ⟨.type "tuple", dW, .seq #[.str "up" tW0, .str "down" tW1, .str "high" tW2, .str "low" tW3, .str "half up" tW4, .str "half down" tW5, .str "half even" tW6, .str "half odd" tW7] nW, sW⟩)
    (a_CHECKS : PySem.W.nsIn K mainGlobals "RULES" = some (some (.ref D_CHECKS)))
    (l_CHECKS : K.lookup D_CHECKS = some ⟨.type "dict", none, .dict es_CHECKS en_CHECKS, #[]⟩)
    (k_CHECKS : PySem.W.KeysLit w.params es_CHECKS.toList)
    (chk_is_from_nought : PySem.W.nsIn K D_CHECKS "up" = some (some (.ref f_is_from_nought)))
    (chk_is_to_nought : PySem.W.nsIn K D_CHECKS "down" = some (some (.ref f_is_to_nought)))
    (chk_is_greater : PySem.W.nsIn K D_CHECKS "high" = some (some (.ref f_is_greater)))
    (chk_is_lesser : PySem.W.nsIn K D_CHECKS "low" = some (some (.ref f_is_lesser)))
    (chk_is_even : PySem.W.nsIn K D_CHECKS "even" = some (some (.ref f_is_even)))
    (chk_is_odd : PySem.W.nsIn K D_CHECKS "odd" = some (some (.ref f_is_odd)))
    : ∃ fd : FuncData, (∀ (s : Shared) (v : Value), BindsTo s fd ⟨[v], []⟩ [("_law_script", v)]) ∧ ∀ base : Heap, K.In base → base.Ns mainGlobals mg → FnG l.prog w K mg base 6 fa fd ["_law_script"] (spLaw K) := by
  have e := hfa.symm.trans (PySem.W.mg_of X G a_law)
  cases e
  have F_is_whole := fun_mk (st := s_is_whole) l_is_whole c_is_whole k_is_whole
  have b_is_whole := F_is_whole.binds (ps := ["thing"]) fun _ _ _ _ _ _ us hl => match us, hl with | [_], _ => rfl
  have F_round_holds := fun_mk (st := s_round_holds) l_round_holds c_round_holds k_round_holds
  have b_round_holds := F_round_holds.binds (ps := ["number", "step", "way", "thing"]) fun _ _ _ _ _ _ us hl => match us, hl with | [_, _, _, _], _ => rfl
  have F_are_neighbours := fun_mk (st := s_are_neighbours) l_are_neighbours c_are_neighbours k_are_neighbours
  have b_are_neighbours := F_are_neighbours.binds (ps := ["steps", "low", "high"]) fun _ _ _ _ _ _ us hl => match us, hl with | [_, _, _], _ => rfl
  have F_goes_to := fun_mk (st := s_goes_to) l_goes_to c_goes_to k_goes_to
  have b_goes_to := F_goes_to.binds (ps := ["steps", "way", "taken", "other"]) fun _ _ _ _ _ _ us hl => match us, hl with | [_, _, _, _], _ => rfl
  have F_is_from_nought := fun_mk (st := s_is_from_nought) l_is_from_nought c_is_from_nought k_is_from_nought
  have b_is_from_nought := F_is_from_nought.binds (ps := ["taken", "other"]) fun _ _ _ _ _ _ us hl => match us, hl with | [_, _], _ => rfl
  have F_is_to_nought := fun_mk (st := s_is_to_nought) l_is_to_nought c_is_to_nought k_is_to_nought
  have b_is_to_nought := F_is_to_nought.binds (ps := ["taken", "other"]) fun _ _ _ _ _ _ us hl => match us, hl with | [_, _], _ => rfl
  have F_is_greater := fun_mk (st := s_is_greater) l_is_greater c_is_greater k_is_greater
  have b_is_greater := F_is_greater.binds (ps := ["taken", "other"]) fun _ _ _ _ _ _ us hl => match us, hl with | [_, _], _ => rfl
  have F_is_lesser := fun_mk (st := s_is_lesser) l_is_lesser c_is_lesser k_is_lesser
  have b_is_lesser := F_is_lesser.binds (ps := ["taken", "other"]) fun _ _ _ _ _ _ us hl => match us, hl with | [_, _], _ => rfl
  have F_is_even := fun_mk (st := s_is_even) l_is_even c_is_even k_is_even
  have b_is_even := F_is_even.binds (ps := ["taken", "other"]) fun _ _ _ _ _ _ us hl => match us, hl with | [_, _], _ => rfl
  have F_is_odd := fun_mk (st := s_is_odd) l_is_odd c_is_odd k_is_odd
  have b_is_odd := F_is_odd.binds (ps := ["taken", "other"]) fun _ _ _ _ _ _ us hl => match us, hl with | [_, _], _ => rfl
  have F_Number_init : FunD K "__init__" "Number.__init__" (defArgs s_Number_init) (defBody s_Number_init) (defScope s_Number_init) [V.int 1] [] f_Number_init _ := ⟨⟨_, _, _, _, _, _, _, _, _, _, rfl, l_Number_init, c_Number_init, .inr ⟨by simp, Td_Number_init, _, _, _, rfl, T_Number_init, rfl, .cons ⟨_, rfl⟩ .nil⟩, .inl rfl⟩, k_Number_init⟩
  obtain ⟨b_Number_init2, ds_Number_init1, d_Number_init1, b_Number_init1⟩ := bi_Number_init F_Number_init
  have F_Number_eq := fun_mk (st := s_Number_eq) l_Number_eq c_Number_eq k_Number_eq
  have b_Number_eq := F_Number_eq.binds (ps := ["self", "other"]) fun _ _ _ _ _ _ us hl => match us, hl with | [_, _], _ => rfl
  have F_Number_over := fun_mk (st := s_Number_over) l_Number_over c_Number_over k_Number_over
  have b_Number_over := F_Number_over.binds (ps := ["self", "other"]) fun _ _ _ _ _ _ us hl => match us, hl with | [_, _], _ => rfl
  have F_l_deck := fun_mk (st := s_l_deck) l_l_deck c_l_deck k_l_deck
  have b_l_deck := F_l_deck.binds (ps := ["_law_script"]) fun _ _ _ _ _ _ us hl => match us, hl with | [_], _ => rfl
  have F_l_draw := fun_mk (st := s_l_draw) l_l_draw c_l_draw k_l_draw
  have b_l_draw := F_l_draw.binds (ps := ["_law_deck_here", "_law_ways"]) fun _ _ _ _ _ _ us hl => match us, hl with | [_, _], _ => rfl
  have F_l_grain := fun_mk (st := s_l_grain) l_l_grain c_l_grain k_l_grain
  have b_l_grain := F_l_grain.binds (ps := ["_law_deck_here"]) fun _ _ _ _ _ _ us hl => match us, hl with | [_], _ => rfl
  have F_l_near := fun_mk (st := s_l_near) l_l_near c_l_near k_l_near
  have b_l_near := F_l_near.binds (ps := ["_law_deck_here", "_law_grain_here"]) fun _ _ _ _ _ _ us hl => match us, hl with | [_, _], _ => rfl
  have F_l_steps := fun_mk (st := s_l_steps) l_l_steps c_l_steps k_l_steps
  have b_l_steps := F_l_steps.binds (ps := ["_law_number", "_law_grain_here"]) fun _ _ _ _ _ _ us hl => match us, hl with | [_, _], _ => rfl
  have F_l_count := fun_mk (st := s_l_count) l_l_count c_l_count k_l_count
  have b_l_count := F_l_count.binds (ps := ["_law_number", "_law_grain_here", "_law_rule"]) fun _ _ _ _ _ _ us hl => match us, hl with | [_, _, _], _ => rfl
  have F_l_other := fun_mk (st := s_l_other) l_l_other c_l_other k_l_other
  have b_l_other := F_l_other.binds (ps := ["_law_deck_here", "_law_thing"]) fun _ _ _ _ _ _ us hl => match us, hl with | [_, _], _ => rfl
  have F_l_right := fun_mk (st := s_l_right) l_l_right c_l_right k_l_right
  have b_l_right := F_l_right.binds (ps := ["_law_here", "_law_unit_step", "_law_rule", "_law_due", "_law_thing"]) fun _ _ _ _ _ _ us hl => match us, hl with | [_, _, _, _, _], _ => rfl
  have F_law := fun_mk (st := s_law) l_law c_law k_law
  have b_law := F_law.binds (ps := ["_law_script"]) fun _ _ _ _ _ _ us hl => match us, hl with | [_], _ => rfl
  have t_WAYS : ∀ H : Hp, SqT K H A_WAYS [.str "up", .str "down", .str "high", .str "low", .str "half up", .str "half down", .str "half even", .str "half odd"] := fun H => .inr ⟨_, _, _, l_WAYS, rfl, rfl, by show 8 ≤ sizeLine; decide, .cons ⟨_, rfl⟩ (.cons ⟨_, rfl⟩ (.cons ⟨_, rfl⟩ (.cons ⟨_, rfl⟩ (.cons ⟨_, rfl⟩ (.cons ⟨_, rfl⟩ (.cons ⟨_, rfl⟩ (.cons ⟨_, rfl⟩ .nil)))))))⟩
  exact ⟨_, fun s v => .of_eq rfl, fun base _ _ => okG_law (w := w) (K := K) (mg := mg) {
    C_Number := C_Number,
    m_Number := PySem.W.mg_of X G aC_Number,
    c_Number := ⟨pg_Number, hd_Number, po_Number, sa_Number⟩,
    n_Number_top := nf_Number_top,
    n_Number_bottom := nf_Number_bottom,
    ty_Number_c := tc_Number,
    ty_Number_g := tg_Number,
    ty_Number_t := tt_Number,
    ty_Number_m := tm_Number,
    ty_Number_k := kit_self,
    ne_Number := nn_Number,
    m_is_whole := PySem.W.mg_of X G a_is_whole,
    f_is_whole := f_is_whole,
    fd_is_whole := _,
    F_is_whole := F_is_whole,
    b_is_whole := b_is_whole,
    m_round_holds := PySem.W.mg_of X G a_round_holds,
    f_round_holds := f_round_holds,
    fd_round_holds := _,
    F_round_holds := F_round_holds,
    b_round_holds := b_round_holds,
    m_are_neighbours := PySem.W.mg_of X G a_are_neighbours,
    f_are_neighbours := f_are_neighbours,
    fd_are_neighbours := _,
    F_are_neighbours := F_are_neighbours,
    b_are_neighbours := b_are_neighbours,
    m_goes_to := PySem.W.mg_of X G a_goes_to,
    f_goes_to := f_goes_to,
    fd_goes_to := _,
    F_goes_to := F_goes_to,
    b_goes_to := b_goes_to,
    m_is_from_nought := PySem.W.mg_of X G a_is_from_nought,
    f_is_from_nought := f_is_from_nought,
    fd_is_from_nought := _,
    F_is_from_nought := F_is_from_nought,
    b_is_from_nought := b_is_from_nought,
    m_is_to_nought := PySem.W.mg_of X G a_is_to_nought,
    f_is_to_nought := f_is_to_nought,
    fd_is_to_nought := _,
    F_is_to_nought := F_is_to_nought,
    b_is_to_nought := b_is_to_nought,
    m_is_greater := PySem.W.mg_of X G a_is_greater,
    f_is_greater := f_is_greater,
    fd_is_greater := _,
    F_is_greater := F_is_greater,
    b_is_greater := b_is_greater,
    m_is_lesser := PySem.W.mg_of X G a_is_lesser,
    f_is_lesser := f_is_lesser,
    fd_is_lesser := _,
    F_is_lesser := F_is_lesser,
    b_is_lesser := b_is_lesser,
    m_is_even := PySem.W.mg_of X G a_is_even,
    f_is_even := f_is_even,
    fd_is_even := _,
    F_is_even := F_is_even,
    b_is_even := b_is_even,
    m_is_odd := PySem.W.mg_of X G a_is_odd,
    f_is_odd := f_is_odd,
    fd_is_odd := _,
    F_is_odd := F_is_odd,
    b_is_odd := b_is_odd,
    f_Number_init := f_Number_init,
    fd_Number_init := _,
    F_Number_init := F_Number_init,
    mk_Number := ⟨mi_Number, a_Number_init, i_Number_init, kc_Number⟩,
    b_Number_init2 := b_Number_init2,
    ds_Number_init1 := ds_Number_init1,
    d_Number_init1 := d_Number_init1,
    b_Number_init1 := b_Number_init1,
    f_Number_eq := f_Number_eq,
    fd_Number_eq := _,
    F_Number_eq := F_Number_eq,
    me_Number_eq := ⟨a_Number_eq, i_Number_eq, k_Number_eq⟩,
    b_Number_eq := b_Number_eq,
    f_Number_over := f_Number_over,
    fd_Number_over := _,
    F_Number_over := F_Number_over,
    me_Number_over := ⟨a_Number_over, i_Number_over, k_Number_over⟩,
    b_Number_over := b_Number_over,
    m_l_deck := PySem.W.mg_of X G a_l_deck,
    f_l_deck := f_l_deck,
    fd_l_deck := _,
    F_l_deck := F_l_deck,
    b_l_deck := b_l_deck,
    m_l_draw := PySem.W.mg_of X G a_l_draw,
    f_l_draw := f_l_draw,
    fd_l_draw := _,
    F_l_draw := F_l_draw,
    b_l_draw := b_l_draw,
    m_l_grain := PySem.W.mg_of X G a_l_grain,
    f_l_grain := f_l_grain,
    fd_l_grain := _,
    F_l_grain := F_l_grain,
    b_l_grain := b_l_grain,
    m_l_near := PySem.W.mg_of X G a_l_near,
    f_l_near := f_l_near,
    fd_l_near := _,
    F_l_near := F_l_near,
    b_l_near := b_l_near,
    m_l_steps := PySem.W.mg_of X G a_l_steps,
    f_l_steps := f_l_steps,
    fd_l_steps := _,
    F_l_steps := F_l_steps,
    b_l_steps := b_l_steps,
    m_l_count := PySem.W.mg_of X G a_l_count,
    f_l_count := f_l_count,
    fd_l_count := _,
    F_l_count := F_l_count,
    b_l_count := b_l_count,
    m_l_other := PySem.W.mg_of X G a_l_other,
    f_l_other := f_l_other,
    fd_l_other := _,
    F_l_other := F_l_other,
    b_l_other := b_l_other,
    m_l_right := PySem.W.mg_of X G a_l_right,
    f_l_right := f_l_right,
    fd_l_right := _,
    F_l_right := F_l_right,
    b_l_right := b_l_right,
    m_law := PySem.W.mg_of X G a_law,
    f_law := _,
    fd_law := _,
    F_law := F_law,
    b_law := b_law,
    m_gcd := PySem.W.mg_of X G a_gcd,
    n_range := PySem.W.mg_none_of X G z_range,
    n_isinstance := PySem.W.mg_none_of X G z_isinstance,
    n_str := PySem.W.mg_none_of X G z_str,
    n_int := PySem.W.mg_none_of X G z_int,
    n_list := PySem.W.mg_none_of X G z_list,
    n_len := PySem.W.mg_none_of X G z_len,
    n_abs := PySem.W.mg_none_of X G z_abs,
    n_max := PySem.W.mg_none_of X G z_max,
    n_bool := PySem.W.mg_none_of X G z_bool,
    n_repr := PySem.W.mg_none_of X G z_repr,
    n_tuple := PySem.W.mg_none_of X G z_tuple,
    n_all := PySem.W.mg_none_of X G z_all,
    A_WAYS := A_WAYS,
    m_WAYS := PySem.W.mg_of X G a_WAYS,
    t_WAYS := t_WAYS,
    D_CHECKS := D_CHECKS,
    m_CHECKS := PySem.W.mg_of X G a_CHECKS,
    es_CHECKS := es_CHECKS,
    en_CHECKS := en_CHECKS,
    l_CHECKS := l_CHECKS,
    k_CHECKS := k_CHECKS,
    chk_is_from_nought := chk_is_from_nought,
    chk_is_to_nought := chk_is_to_nought,
    chk_is_greater := chk_is_greater,
    chk_is_lesser := chk_is_lesser,
    chk_is_even := chk_is_even,
    chk_is_odd := chk_is_odd }⟩
theorem walk {l : PySem.W.OpenLaw} {q : Program} {loose : List Str} {XP : (Str → Option Value) → Heap → Prop} {YP : World → Heap → Prop} {d : DefRec} {K : Params → PySem.W.Frag} (hn : l.most = some 63) (hdf : d.params.defaults = [])
    (hY : ∀ (w : World) (h : Heap), YP w h → (K w.params).In h)
    (F : ∀ (w : World) (mg : Str → Option Value) (fa : Addr) (h : Heap), (K w.params).In h → h.Ns mainGlobals mg → mg d.name = some (.ref fa) →
      ∃ fd : FuncData, (∀ (s : Shared) (u : Value), BindsTo s fd ⟨[u], []⟩ [("_law_script", u)]) ∧ ∀ base : Heap, (K w.params).In base → base.Ns mainGlobals mg → FnG l.prog w (K w.params) mg base 6 fa fd ["_law_script"] (spLaw (K w.params))) :
    PySem.W.WalkO q loose XP YP l.row.toRowW d [] (fun f vs => PySem.call f vs) :=
  walk_ofG (n := 63) (k := 6) (x := "_law_script") (sp := fun w => spLaw (K w.params)) hn (by decide) hdf ⟨rfl, by decide, by decide⟩ hY F (fun _ _ a ns hl hS => ⟨a, ns, rfl, hS, hl, fun _ => rfl⟩)
end My
open PySem PySem.W PyProof.Rows in
set_option maxRecDepth 100000 in
set_option maxHeartbeats 0 in
theorem PySem.Challenge.cw_figuretexts_k12_papers_of_roundings_by_a_holds : PySem.Challenge.rw_figuretexts_k12_papers_of_roundings_by_a.Holds := by
  w_on; o_law; k_head; (case hw => w_witness2)
  k_fill
  refine My.walk (l := PySem.Challenge.rw_figuretexts_k12_papers_of_roundings_by_a) rfl rfl (fun w h Y => PySem.W.kIn_of Y) ?F
  case F =>
    intro w mg fa h KX G hmg
    refine' My.all_mk KX G hmg ?aC_Number ?pg_Number ?hd_Number ?po_Number ?sa_Number ?nf_Number_top ?nf_Number_bottom ?tc_Number ?tg_Number ?tt_Number ?tm_Number ?nn_Number ?mi_Number ?kc_Number ?a_is_whole ?l_is_whole ?c_is_whole ?k_is_whole ?a_round_holds ?l_round_holds ?c_round_holds ?k_round_holds ?a_are_neighbours ?l_are_neighbours ?c_are_neighbours ?k_are_neighbours ?a_goes_to ?l_goes_to ?c_goes_to ?k_goes_to ?a_is_from_nought ?l_is_from_nought ?c_is_from_nought ?k_is_from_nought ?a_is_to_nought ?l_is_to_nought ?c_is_to_nought ?k_is_to_nought ?a_is_greater ?l_is_greater ?c_is_greater ?k_is_greater ?a_is_lesser ?l_is_lesser ?c_is_lesser ?k_is_lesser ?a_is_even ?l_is_even ?c_is_even ?k_is_even ?a_is_odd ?l_is_odd ?c_is_odd ?k_is_odd ?a_Number_init ?i_Number_init ?l_Number_init ?c_Number_init ?k_Number_init ?T_Number_init ?a_Number_eq ?i_Number_eq ?l_Number_eq ?c_Number_eq ?k_Number_eq ?a_Number_over ?i_Number_over ?l_Number_over ?c_Number_over ?k_Number_over ?a_l_deck ?l_l_deck ?c_l_deck ?k_l_deck ?a_l_draw ?l_l_draw ?c_l_draw ?k_l_draw ?a_l_grain ?l_l_grain ?c_l_grain ?k_l_grain ?a_l_near ?l_l_near ?c_l_near ?k_l_near ?a_l_steps ?l_l_steps ?c_l_steps ?k_l_steps ?a_l_count ?l_l_count ?c_l_count ?k_l_count ?a_l_other ?l_l_other ?c_l_other ?k_l_other ?a_l_right ?l_l_right ?c_l_right ?k_l_right ?a_law ?l_law ?c_law ?k_law ?a_gcd ?z_range ?z_isinstance ?z_str ?z_int ?z_list ?z_len ?z_abs ?z_max ?z_bool ?z_repr ?z_tuple ?z_all ?a_WAYS ?l_WAYS ?a_CHECKS ?l_CHECKS ?k_CHECKS ?chk_is_from_nought ?chk_is_to_nought ?chk_is_greater ?chk_is_lesser ?chk_is_even ?chk_is_odd
    (case aC_Number => k_is)
    (case pg_Number => k_is)
    (case hd_Number => k_is)
    (case po_Number => k_is)
    (case sa_Number => k_is)
    (case nf_Number_top => k_is)
    (case nf_Number_bottom => k_is)
    (case tc_Number => k_is)
    (case tg_Number => k_is)
    (case tt_Number => k_is)
    (case tm_Number => k_is)
    (case nn_Number => k_is)
    (case mi_Number => k_is)
    (case kc_Number => k_is)
    (case a_is_whole => k_is)
    (case l_is_whole => k_is)
    (case c_is_whole => k_is)
    (case k_is_whole => k_is)
    (case a_round_holds => k_is)
    (case l_round_holds => k_is)
    (case c_round_holds => k_is)
    (case k_round_holds => k_is)
    (case a_are_neighbours => k_is)
    (case l_are_neighbours => k_is)
    (case c_are_neighbours => k_is)
    (case k_are_neighbours => k_is)
    (case a_goes_to => k_is)
    (case l_goes_to => k_is)
    (case c_goes_to => k_is)
    (case k_goes_to => k_is)
    (case a_is_from_nought => k_is)
    (case l_is_from_nought => k_is)
    (case c_is_from_nought => k_is)
    (case k_is_from_nought => k_is)
    (case a_is_to_nought => k_is)
    (case l_is_to_nought => k_is)
    (case c_is_to_nought => k_is)
    (case k_is_to_nought => k_is)
    (case a_is_greater => k_is)
    (case l_is_greater => k_is)
    (case c_is_greater => k_is)
    (case k_is_greater => k_is)
    (case a_is_lesser => k_is)
    (case l_is_lesser => k_is)
    (case c_is_lesser => k_is)
    (case k_is_lesser => k_is)
    (case a_is_even => k_is)
    (case l_is_even => k_is)
    (case c_is_even => k_is)
    (case k_is_even => k_is)
    (case a_is_odd => k_is)
    (case l_is_odd => k_is)
    (case c_is_odd => k_is)
    (case k_is_odd => k_is)
    (case a_Number_init => k_is)
    (case i_Number_init => k_is)
    (case l_Number_init => k_is)
    (case c_Number_init => k_is)
    (case k_Number_init => k_is)
    (case T_Number_init => k_is)
    (case a_Number_eq => k_is)
    (case i_Number_eq => k_is)
    (case l_Number_eq => k_is)
    (case c_Number_eq => k_is)
    (case k_Number_eq => k_is)
    (case a_Number_over => k_is)
    (case i_Number_over => k_is)
    (case l_Number_over => k_is)
    (case c_Number_over => k_is)
    (case k_Number_over => k_is)
    (case a_l_deck => k_is)
    (case l_l_deck => k_is)
    (case c_l_deck => k_is)
    (case k_l_deck => k_is)
    (case a_l_draw => k_is)
    (case l_l_draw => k_is)
    (case c_l_draw => k_is)
    (case k_l_draw => k_is)
    (case a_l_grain => k_is)
    (case l_l_grain => k_is)
    (case c_l_grain => k_is)
    (case k_l_grain => k_is)
    (case a_l_near => k_is)
    (case l_l_near => k_is)
    (case c_l_near => k_is)
    (case k_l_near => k_is)
    (case a_l_steps => k_is)
    (case l_l_steps => k_is)
    (case c_l_steps => k_is)
    (case k_l_steps => k_is)
    (case a_l_count => k_is)
    (case l_l_count => k_is)
    (case c_l_count => k_is)
    (case k_l_count => k_is)
    (case a_l_other => k_is)
    (case l_l_other => k_is)
    (case c_l_other => k_is)
    (case k_l_other => k_is)
    (case a_l_right => k_is)
    (case l_l_right => k_is)
    (case c_l_right => k_is)
    (case k_l_right => k_is)
    (case a_law => k_is)
    (case l_law => k_is)
    (case c_law => k_is)
    (case k_law => k_is)
    (case a_gcd => k_is)
    (case z_range => k_is)
    (case z_isinstance => k_is)
    (case z_str => k_is)
    (case z_int => k_is)
    (case z_list => k_is)
    (case z_len => k_is)
    (case z_abs => k_is)
    (case z_max => k_is)
    (case z_bool => k_is)
    (case z_repr => k_is)
    (case z_tuple => k_is)
    (case z_all => k_is)
    (case a_WAYS => k_is)
    (case l_WAYS => k_is)
    (case a_CHECKS => k_is)
    (case l_CHECKS => k_is)
    (case k_CHECKS => exact ⟨⟨_, _, rfl, rfl⟩, ⟨_, _, rfl, rfl⟩, ⟨_, _, rfl, rfl⟩, ⟨_, _, rfl, rfl⟩, ⟨_, _, rfl, rfl⟩, ⟨_, _, rfl, rfl⟩, trivial⟩)
    (case chk_is_from_nought => k_is)
    (case chk_is_to_nought => k_is)
    (case chk_is_greater => k_is)
    (case chk_is_lesser => k_is)
    (case chk_is_even => k_is)
    (case chk_is_odd => k_is)
