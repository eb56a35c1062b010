import Ieee.Arith
import GoSem.Core.Value
namespace Go.Proofs.YtcconhgbefhdeaaDoor

/-- What stands at a rung: mantissa and place. -/
def rMag (r : Nat) : Nat := if r < 2 ^ 52 then r else 2 ^ 52 + r % 2 ^ 52
def rSh (r : Nat) : Nat := if r < 2 ^ 52 then 0 else r / 2 ^ 52 - 1

theorem read_num (neg : Bool) (x : Nat) (hx : x % 2 ^ 63 < 2047 * 2 ^ 52) (hneg : (x / 2 ^ 63 % 2 == 1) = neg) :
    Ieee.double.read x = .number neg (rMag (x % 2 ^ 63)) (-1074 + (rSh (x % 2 ^ 63) : Int)) := by
  have e1 : Ieee.double.signWeight = 2 ^ 63 := by decide
  have e2 : Ieee.double.binade = 2 ^ 52 := by decide
  have e3 : Ieee.double.infRung = 2047 * 2 ^ 52 := by decide
  have e4 : Ieee.double.leastPlace = -1074 := by decide
  unfold Ieee.Format.read
  simp only [e1, e2, e3, e4, hneg]
  unfold rMag rSh
  by_cases h : x % 2 ^ 63 < 2 ^ 52
  · simp [h]
  · simp [h, hx]

theorem read_inf (neg : Bool) (x : Nat) (hx : x % 2 ^ 63 = 2047 * 2 ^ 52) (hneg : (x / 2 ^ 63 % 2 == 1) = neg) :
    Ieee.double.read x = .infinity neg := by
  have e1 : Ieee.double.signWeight = 2 ^ 63 := by decide
  have e2 : Ieee.double.binade = 2 ^ 52 := by decide
  have e3 : Ieee.double.infRung = 2047 * 2 ^ 52 := by decide
  unfold Ieee.Format.read
  simp only [e1, e2, e3, hneg, hx]
  simp

theorem read_nan (x : Nat) (hx : 2047 * 2 ^ 52 < x % 2 ^ 63) : ∃ b f, Ieee.double.read x = .nan b f := by
  have e1 : Ieee.double.signWeight = 2 ^ 63 := by decide
  have e2 : Ieee.double.binade = 2 ^ 52 := by decide
  have e3 : Ieee.double.infRung = 2047 * 2 ^ 52 := by decide
  unfold Ieee.Format.read
  simp only [e1, e2, e3]
  rw [if_neg (by omega), if_neg (by omega), if_neg (by omega)]
  exact ⟨_, _, rfl⟩

theorem rSh_lt {r : Nat} (h : r < 2 ^ 53) : rSh r = 0 ∧ rMag r = r := by
  unfold rSh rMag
  by_cases h1 : r < 2 ^ 52
  · simp [h1]
  · rw [if_neg h1, if_neg h1]
    have : r / 2 ^ 52 = 1 := by omega
    omega

theorem rMag_le (r : Nat) : rMag r < 2 ^ 53 := by
  unfold rMag
  split <;> omega

theorem rMag_ge {r : Nat} (h : 2 ^ 52 ≤ r) : 2 ^ 52 ≤ rMag r := by
  unfold rMag
  split <;> omega

theorem mag_lt {r q : Nat} (h : r < q) : rSh r ≤ rSh q ∧ rMag r < rMag q * 2 ^ (rSh q - rSh r) := by
  by_cases hr : r < 2 ^ 52
  · have e1 := rSh_lt (r := r) (by omega)
    rw [e1.1, e1.2]
    refine ⟨Nat.zero_le _, ?_⟩
    by_cases hq : q < 2 ^ 53
    · have e2 := rSh_lt hq
      rw [e2.1, e2.2]; simpa using h
    · have := rMag_ge (r := q) (by omega)
      have p : 0 < 2 ^ (rSh q - 0) := Nat.two_pow_pos _
      calc r < 2 ^ 52 := hr
        _ ≤ rMag q := this
        _ ≤ rMag q * 2 ^ (rSh q - 0) := Nat.le_mul_of_pos_right _ p
  · have hq : ¬ q < 2 ^ 52 := by omega
    have m1 : rMag r = 2 ^ 52 + r % 2 ^ 52 := by unfold rMag; rw [if_neg hr]
    have m2 : rMag q = 2 ^ 52 + q % 2 ^ 52 := by unfold rMag; rw [if_neg hq]
    have s1 : rSh r = r / 2 ^ 52 - 1 := by unfold rSh; rw [if_neg hr]
    have s2 : rSh q = q / 2 ^ 52 - 1 := by unfold rSh; rw [if_neg hq]
    have le : r / 2 ^ 52 ≤ q / 2 ^ 52 := Nat.div_le_div_right (by omega)
    refine ⟨by omega, ?_⟩
    by_cases he : r / 2 ^ 52 = q / 2 ^ 52
    · have : rSh q - rSh r = 0 := by omega
      rw [this, m1, m2]; omega
    · obtain ⟨k, hk⟩ : ∃ k, rSh q - rSh r = k + 1 := ⟨rSh q - rSh r - 1, by omega⟩
      rw [hk, Nat.pow_succ]
      have p : 0 < 2 ^ k := Nat.two_pow_pos _
      have b1 := rMag_le r
      have b2 := rMag_ge (r := q) (by omega)
      have : rMag q * 2 ≤ rMag q * (2 ^ k * 2) := Nat.mul_le_mul_left _ (by omega)
      omega

/-- The two magnitudes at a common place. -/
def rA (r q : Nat) : Nat := rMag r <<< ((-1074 + (rSh r : Int)) - min (-1074 + (rSh r : Int)) (-1074 + (rSh q : Int))).toNat

theorem rA_lt {r q : Nat} (h : r < q) : rA r q < rA q r := by
  obtain ⟨h1, h2⟩ := mag_lt h
  unfold rA
  have e1 : ((-1074 + (rSh r : Int)) - min (-1074 + (rSh r : Int)) (-1074 + (rSh q : Int))).toNat = 0 := by omega
  have e2 : ((-1074 + (rSh q : Int)) - min (-1074 + (rSh q : Int)) (-1074 + (rSh r : Int))).toNat = rSh q - rSh r := by omega
  rw [e1, e2, Nat.shiftLeft_eq, Nat.shiftLeft_eq]
  simpa using h2

theorem rA_zero (q : Nat) : rA 0 q = 0 := by
  unfold rA
  have : rMag 0 = 0 := by decide
  rw [this]; simp

theorem rA_pos {r q : Nat} (h : 0 < r) : 0 < rA r q := by
  unfold rA
  rw [Nat.shiftLeft_eq]
  have : 0 < rMag r := by unfold rMag; split <;> omega
  exact Nat.mul_pos this (Nat.two_pow_pos _)

/-- A word's rung with its sign. -/
def keyW (x : Nat) : Int := if x / 2 ^ 63 % 2 = 1 then -((x % 2 ^ 63 : Nat) : Int) else ((x % 2 ^ 63 : Nat) : Int)

theorem cmp_int (a b c d : Int) (h1 : a < b → c < d) (h2 : a = b → c = d) (h3 : b < a → d < c) : compare c d = compare a b := by
  rcases Int.lt_trichotomy a b with h | h | h
  · have := h1 h
    simp [compare, compareOfLessAndEq, h, this]
  · have := h2 h
    simp [compare, compareOfLessAndEq, h, this]
  · have := h3 h
    have n1 : ¬ a < b := by omega
    have n2 : ¬ c < d := by omega
    have n3 : a ≠ b := by omega
    have n4 : c ≠ d := by omega
    simp [compare, compareOfLessAndEq, n1, n2, n3, n4]

theorem cmp_lt {a b : Int} (h : a < b) : compare a b = .lt := by simp [compare, compareOfLessAndEq, h]
theorem cmp_gt {a b : Int} (h : b < a) : compare a b = .gt := by
  have n1 : ¬ a < b := by omega
  have n2 : a ≠ b := by omega
  simp [compare, compareOfLessAndEq, n1, n2]

theorem order_num (x y : Nat) (hx : x % 2 ^ 63 < 2047 * 2 ^ 52) (hy : y % 2 ^ 63 < 2047 * 2 ^ 52) :
    Ieee.double.order x y = some (compare (keyW x) (keyW y)) := by
  unfold Ieee.Format.order
  rw [read_num _ x hx rfl, read_num _ y hy rfl]
  unfold Ieee.Datum.order
  simp only [Ieee.signed]
  have eA : rMag (x % 2 ^ 63) <<< ((-1074 + (rSh (x % 2 ^ 63) : Int)) - min (-1074 + (rSh (x % 2 ^ 63) : Int)) (-1074 + (rSh (y % 2 ^ 63) : Int))).toNat = rA (x % 2 ^ 63) (y % 2 ^ 63) := rfl
  have eB : rMag (y % 2 ^ 63) <<< ((-1074 + (rSh (y % 2 ^ 63) : Int)) - min (-1074 + (rSh (x % 2 ^ 63) : Int)) (-1074 + (rSh (y % 2 ^ 63) : Int))).toNat = rA (y % 2 ^ 63) (x % 2 ^ 63) := by
    unfold rA; rw [Int.min_comm]
  rw [eA, eB]
  unfold keyW
  generalize x % 2 ^ 63 = r
  generalize y % 2 ^ 63 = q
  have l1 : r < q → rA r q < rA q r := rA_lt
  have l2 : q < r → rA q r < rA r q := rA_lt
  have l3 : r = q → rA r q = rA q r := fun h => by rw [h]
  have p1 : 0 < r → 0 < rA r q := rA_pos
  have p2 : 0 < q → 0 < rA q r := rA_pos
  have z1 : r = 0 → rA r q = 0 := fun h => by rw [h]; exact rA_zero q
  have z2 : q = 0 → rA q r = 0 := fun h => by rw [h]; exact rA_zero r
  generalize rA r q = A at *
  generalize rA q r = B at *
  by_cases s1 : x / 2 ^ 63 % 2 = 1 <;> by_cases s2 : y / 2 ^ 63 % 2 = 1 <;> simp only [s1, s2, beq_self_eq_true, if_true, if_false, beq_iff_eq] <;>
    exact congrArg some (cmp_int _ _ _ _ (by omega) (by omega) (by omega))

theorem order_key (x y : Nat) (hx : x % 2 ^ 63 ≤ 2047 * 2 ^ 52) (hy : y % 2 ^ 63 ≤ 2047 * 2 ^ 52) :
    Ieee.double.order x y = some (compare (keyW x) (keyW y)) := by
  by_cases h1 : x % 2 ^ 63 = 2047 * 2 ^ 52
  · by_cases h2 : y % 2 ^ 63 = 2047 * 2 ^ 52
    · unfold Ieee.Format.order keyW
      rw [read_inf _ x h1 rfl, read_inf _ y h2 rfl, h1, h2]
      unfold Ieee.Datum.order
      by_cases s1 : x / 2 ^ 63 % 2 = 1 <;> by_cases s2 : y / 2 ^ 63 % 2 = 1
      · rw [beq_iff_eq.2 s1, beq_iff_eq.2 s2, if_pos s1, if_pos s2]; decide
      · rw [beq_iff_eq.2 s1, beq_eq_false_iff_ne.2 s2, if_pos s1, if_neg s2]; decide
      · rw [beq_eq_false_iff_ne.2 s1, beq_iff_eq.2 s2, if_neg s1, if_pos s2]; decide
      · rw [beq_eq_false_iff_ne.2 s1, beq_eq_false_iff_ne.2 s2, if_neg s1, if_neg s2]; decide
    · unfold Ieee.Format.order keyW
      rw [read_inf _ x h1 rfl, read_num _ y (by omega) rfl, h1]
      unfold Ieee.Datum.order
      by_cases s1 : x / 2 ^ 63 % 2 = 1
      · simp only [s1, beq_self_eq_true, if_true]
        exact congrArg some (cmp_lt (by split <;> omega)).symm
      · simp only [s1, beq_iff_eq, if_false]
        exact congrArg some (cmp_gt (by split <;> omega)).symm
  · by_cases h2 : y % 2 ^ 63 = 2047 * 2 ^ 52
    · unfold Ieee.Format.order keyW
      rw [read_inf _ y h2 rfl, read_num _ x (by omega) rfl, h2]
      unfold Ieee.Datum.order
      by_cases s1 : y / 2 ^ 63 % 2 = 1
      · simp only [s1, beq_self_eq_true, if_true]
        exact congrArg some (cmp_gt (by split <;> omega)).symm
      · simp only [s1, beq_iff_eq, if_false]
        exact congrArg some (cmp_lt (by split <;> omega)).symm
    · exact order_num x y (by omega) (by omega)

theorem order_nan (x y : Nat) (h : 2047 * 2 ^ 52 < x % 2 ^ 63 ∨ 2047 * 2 ^ 52 < y % 2 ^ 63) : Ieee.double.order x y = none := by
  unfold Ieee.Format.order
  rcases h with h | h
  · obtain ⟨b, f, e⟩ := read_nan x h
    rw [e]; unfold Ieee.Datum.order; rfl
  · obtain ⟨b, f, e⟩ := read_nan y h
    rw [e]; unfold Ieee.Datum.order
    cases Ieee.double.read x <;> rfl

end Go.Proofs.YtcconhgbefhdeaaDoor
