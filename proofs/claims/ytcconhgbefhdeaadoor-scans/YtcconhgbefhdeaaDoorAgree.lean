import Derived.Test.YtcconhgbefhdeaaDoorSays2
import Derived.Test.YtcconhgbefhdeaaDoorIeee
namespace Go.Proofs.YtcconhgbefhdeaaDoor
open Go.RowKit

theorem bits_mod (n : Int) (h1 : -9223372036854775808 ≤ n) (h2 : n ≤ 9223372036854775807) : ((bitsN n % 2 ^ 63 : Nat) : Int) = magI n ∧ (bitsN n / 2 ^ 63 % 2 = 1 ↔ n < 0) := by
  unfold bitsN magI
  rw [IntKind.wrap_u64]
  by_cases h : n < 0
  · have e : n % 18446744073709551616 = n + 18446744073709551616 := by omega
    rw [e, if_pos h]
    omega
  · have e : n % 18446744073709551616 = n := by omega
    rw [e, if_neg h]
    omega

def keyI (n : Int) : Int := if n < 0 then -(magI n) else magI n

theorem key_bits (n : Int) (h1 : -9223372036854775808 ≤ n) (h2 : n ≤ 9223372036854775807) : keyW (bitsN n) = keyI n := by
  obtain ⟨a, b⟩ := bits_mod n h1 h2
  unfold keyW keyI
  by_cases h : n < 0
  · rw [if_pos (b.2 h), if_pos h, a]
  · rw [if_neg (fun x => h (b.1 x)), if_neg h, a]

theorem realLess_key (n m : Int) (n1 : -9223372036854775808 ≤ n) (m1 : -9223372036854775808 ≤ m) : realLess n m = decide (keyI n < keyI m) := by
  unfold realLess keyI magI
  rw [Bool.eq_iff_iff]
  by_cases a : n < 0 <;> by_cases b : m < 0 <;> simp only [a, b, if_true, if_false] <;> split <;> simp <;> omega

theorem beq_some_lt (a b : Int) : ((some (compare a b) : Option Ordering) == some .lt) = decide (a < b) := by
  rcases Int.lt_trichotomy a b with h | h | h
  · rw [cmp_lt h]; simp [h]
  · subst h; simp [compare, compareOfLessAndEq]
  · rw [cmp_gt h]; simp; omega
theorem beq_some_gt (a b : Int) : ((some (compare a b) : Option Ordering) == some .gt) = decide (b < a) := by
  rcases Int.lt_trichotomy a b with h | h | h
  · rw [cmp_lt h]; simp; omega
  · subst h; simp [compare, compareOfLessAndEq]
  · rw [cmp_gt h]; simp [h]
theorem beq_some_eq (a b : Int) : ((some (compare a b) : Option Ordering) == some .eq) = decide (a = b) := by
  rcases Int.lt_trichotomy a b with h | h | h
  · rw [cmp_lt h]; simp; omega
  · subst h; simp [compare, compareOfLessAndEq]
  · rw [cmp_gt h]; simp; omega

theorem cmp_tail (d a b : Int) (d1 : 1 ≤ d) (d6 : d ≤ 6) : cmpB d (decide (a = b)) (decide (a < b)) (decide (b < a)) = tailB d (decide (a < b)) (decide (b < a)) := by
  have : d = 1 ∨ d = 2 ∨ d = 3 ∨ d = 4 ∨ d = 5 ∨ d = 6 := by omega
  rw [Bool.eq_iff_iff]
  rcases this with rfl | rfl | rfl | rfl | rfl | rfl <;> simp [cmpB, tailB] <;> omega

theorem cmp_tail_text (d : Int) (s t : ByteArray) (d1 : 1 ≤ d) (d6 : d ≤ 6) : cmpB d (eqS s t) (ltS s t) (!ltS s t && !eqS s t) = tailB d (ltS s t) (!ltS s t && !eqS s t) := by
  have hx := ltS_eqS s t
  have : d = 1 ∨ d = 2 ∨ d = 3 ∨ d = 4 ∨ d = 5 ∨ d = 6 := by omega
  rcases this with rfl | rfl | rfl | rfl | rfl | rfl <;> simp only [cmpB, tailB] <;> cases h1 : eqS s t <;> cases h2 : ltS s t <;> simp_all

/-- The program's comparison is the statement's. -/
theorem agree (d c n : Int) (s : ByteArray) (m : Int) (t : ByteArray) (n1 : -9223372036854775808 ≤ n) (n2 : n ≤ 9223372036854775807) (m1 : -9223372036854775808 ≤ m) (m2 : m ≤ 9223372036854775807)
    (d1 : 1 ≤ d) (d6 : d ≤ 6) : holdsB (c + 1) d n s m t = saysB d c n s m t := by
  unfold holdsB saysB
  by_cases hc1 : c = 1
  · subst hc1
    rw [if_pos (by omega), if_neg (by omega), if_pos rfl]
    obtain ⟨a1, _⟩ := bits_mod n n1 n2
    obtain ⟨a2, _⟩ := bits_mod m m1 m2
    by_cases hn : noneB n = true ∨ noneB m = true
    · have : (noneB n || noneB m) = true := by rcases hn with h | h <;> simp [h]
      rw [if_pos this]
      have hnn : 2047 * 2 ^ 52 < bitsN n % 2 ^ 63 ∨ 2047 * 2 ^ 52 < bitsN m % 2 ^ 63 := by
        unfold noneB at hn
        simp only [decide_eq_true_eq] at hn
        omega
      rw [order_nan _ _ hnn]
      have : d = 1 ∨ d = 2 ∨ d = 3 ∨ d = 4 ∨ d = 5 ∨ d = 6 := by omega
      rcases this with rfl | rfl | rfl | rfl | rfl | rfl <;> rfl
    · have h1 : noneB n = false := by simpa using fun h => hn (Or.inl h)
      have h2 : noneB m = false := by simpa using fun h => hn (Or.inr h)
      rw [h1, h2, if_neg (by simp)]
      unfold noneB at h1 h2
      simp only [decide_eq_false_iff_not] at h1 h2
      rw [order_key _ _ (by omega) (by omega), key_bits n n1 n2, key_bits m m1 m2, beq_some_eq, beq_some_lt, beq_some_gt, realLess_key n m n1 m1, realLess_key m n m1 n1]
      exact cmp_tail d _ _ d1 d6
  · rw [if_neg (by omega)]
    by_cases hc2 : c = 2
    · rw [if_pos (by omega), if_pos hc2]
      exact cmp_tail_text d s t d1 d6
    · rw [if_neg (by omega), if_neg hc2, if_neg hc1]
      have : (n == m) = decide (n = m) := by rw [Bool.eq_iff_iff]; simp
      rw [this]
      exact cmp_tail d n m d1 d6

end Go.Proofs.YtcconhgbefhdeaaDoor
