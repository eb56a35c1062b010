import Derived.Test.YtcconhgbefhdeaaDoorSays
namespace Go.Proofs.YtcconhgbefhdeaaDoor
open Go.RowKit

set_option maxHeartbeats 1000000 in
theorem says_real5 (d n : Int) (s : ByteArray) (m : Int) (t : ByteArray) (w : World) (n1 : -9223372036854775808 ≤ n) (n2 : n ≤ 9223372036854775807) (m1 : -9223372036854775808 ≤ m) (m2 : m ≤ 9223372036854775807) (hn : noneB n = false) (hm : noneB m = false) (z1 : (magI n == 0 && magI m == 0) = false) (s1 : n < 0) (s2 : ¬ m < 0) :
    Calls Tryd.prog 13 #[.int .i64 d, .int .i64 1, .agg #[.int .i64 n, .string s], .agg #[.int .i64 m, .string t]] w fun e w' => e = .returned (.bool (saysB d 1 n s m t)) ∧ Below w.heap.size w w' := by
  have z2 : ¬ (magI n = 0 ∧ magI m = 0) := by simpa using z1
  have HL : Hid (realLess n m = true) := by
    unfold realLess Hid
    rw [if_neg z2, if_neg (by omega)]
    first | rw [if_neg (by omega)] | (rw [if_pos (by omega)]; simp; omega)
  have HR : Hid (realLess m n = false) := by
    unfold realLess Hid
    rw [if_neg (fun h => z2 ⟨h.2, h.1⟩), if_neg (by omega)]
    first | rw [if_neg (by omega)] | (rw [if_pos (by omega)]; simp; omega)
  clear z2
  go_enter Tryd.func13, Tryd.ntmps13
  go_wp2_with (first | (go_at_call 31; refine (none_any _ _ (by assumption) (by assumption)).mono ?_; rintro e w' ⟨rfl, rfl⟩) | (go_at_call 32; refine (negative_any _ _ (by assumption) (by assumption)).mono ?_; rintro e w' ⟨rfl, rfl⟩))
  all_goals go_ret
  all_goals refine ⟨ret_bool ?_, ((Below.refl _ _).alloc (Nat.le_refl _) _).alloc (by simp) _⟩
  all_goals (have hl := HL.out; have hr := HR.out; clear HL HR; unfold saysB tailB; rw [hl, hr]; clear hl hr)
  all_goals simp_all

set_option maxHeartbeats 1000000 in
theorem says_real6 (d n : Int) (s : ByteArray) (m : Int) (t : ByteArray) (w : World) (n1 : -9223372036854775808 ≤ n) (n2 : n ≤ 9223372036854775807) (m1 : -9223372036854775808 ≤ m) (m2 : m ≤ 9223372036854775807) (hn : noneB n = false) (hm : noneB m = false) (z1 : (magI n == 0 && magI m == 0) = false) (s1 : ¬ n < 0) (s2 : m < 0) :
    Calls Tryd.prog 13 #[.int .i64 d, .int .i64 1, .agg #[.int .i64 n, .string s], .agg #[.int .i64 m, .string t]] w fun e w' => e = .returned (.bool (saysB d 1 n s m t)) ∧ Below w.heap.size w w' := by
  have z2 : ¬ (magI n = 0 ∧ magI m = 0) := by simpa using z1
  have HL : Hid (realLess n m = false) := by
    unfold realLess Hid
    rw [if_neg z2, if_neg (by omega)]
    first | rw [if_neg (by omega)] | (rw [if_pos (by omega)]; simp; omega)
  have HR : Hid (realLess m n = true) := by
    unfold realLess Hid
    rw [if_neg (fun h => z2 ⟨h.2, h.1⟩), if_neg (by omega)]
    first | rw [if_neg (by omega)] | (rw [if_pos (by omega)]; simp; omega)
  clear z2
  go_enter Tryd.func13, Tryd.ntmps13
  go_wp2_with (first | (go_at_call 31; refine (none_any _ _ (by assumption) (by assumption)).mono ?_; rintro e w' ⟨rfl, rfl⟩) | (go_at_call 32; refine (negative_any _ _ (by assumption) (by assumption)).mono ?_; rintro e w' ⟨rfl, rfl⟩))
  all_goals go_ret
  all_goals refine ⟨ret_bool ?_, ((Below.refl _ _).alloc (Nat.le_refl _) _).alloc (by simp) _⟩
  all_goals (have hl := HL.out; have hr := HR.out; clear HL HR; unfold saysB tailB; rw [hl, hr]; clear hl hr)
  all_goals simp_all

set_option maxHeartbeats 1000000 in
theorem says_real7 (d n : Int) (s : ByteArray) (m : Int) (t : ByteArray) (w : World) (n1 : -9223372036854775808 ≤ n) (n2 : n ≤ 9223372036854775807) (m1 : -9223372036854775808 ≤ m) (m2 : m ≤ 9223372036854775807) (hn : noneB n = false) (hm : noneB m = false) (z1 : (magI n == 0 && magI m == 0) = false) (s1 : ¬ n < 0) (s2 : ¬ m < 0) :
    Calls Tryd.prog 13 #[.int .i64 d, .int .i64 1, .agg #[.int .i64 n, .string s], .agg #[.int .i64 m, .string t]] w fun e w' => e = .returned (.bool (saysB d 1 n s m t)) ∧ Below w.heap.size w w' := by
  have z2 : ¬ (magI n = 0 ∧ magI m = 0) := by simpa using z1
  have HL : Hid (realLess n m = decide (n < m)) := by
    unfold realLess Hid
    rw [if_neg z2, if_neg (by omega)]
    first | rw [if_neg (by omega)] | (rw [if_pos (by omega)]; simp; omega)
  have HR : Hid (realLess m n = decide (m < n)) := by
    unfold realLess Hid
    rw [if_neg (fun h => z2 ⟨h.2, h.1⟩), if_neg (by omega)]
    first | rw [if_neg (by omega)] | (rw [if_pos (by omega)]; simp; omega)
  clear z2
  go_enter Tryd.func13, Tryd.ntmps13
  go_wp2_with (first | (go_at_call 31; refine (none_any _ _ (by assumption) (by assumption)).mono ?_; rintro e w' ⟨rfl, rfl⟩) | (go_at_call 32; refine (negative_any _ _ (by assumption) (by assumption)).mono ?_; rintro e w' ⟨rfl, rfl⟩))
  all_goals go_ret
  all_goals refine ⟨ret_bool ?_, ((Below.refl _ _).alloc (Nat.le_refl _) _).alloc (by simp) _⟩
  all_goals (have hl := HL.out; have hr := HR.out; clear HL HR; unfold saysB tailB; rw [hl, hr]; clear hl hr)
  all_goals simp_all

theorem says_any (d c n : Int) (s : ByteArray) (m : Int) (t : ByteArray) (w : World) (n1 : -9223372036854775808 ≤ n) (n2 : n ≤ 9223372036854775807) (m1 : -9223372036854775808 ≤ m) (m2 : m ≤ 9223372036854775807) :
    Calls Tryd.prog 13 #[.int .i64 d, .int .i64 c, .agg #[.int .i64 n, .string s], .agg #[.int .i64 m, .string t]] w fun e w' => e = .returned (.bool (saysB d c n s m t)) ∧ Below w.heap.size w w' := by
  by_cases h2 : c = 2
  · subst h2; exact says_text d n s m t w
  by_cases h1 : c = 1
  · subst h1
    cases hn : noneB n
    · cases hm : noneB m
      · cases z : (magI n == 0 && magI m == 0)
        · by_cases s1 : n < 0
          · by_cases s2 : m < 0
            · exact says_real4 d n s m t w n1 n2 m1 m2 hn hm z s1 s2
            · exact says_real5 d n s m t w n1 n2 m1 m2 hn hm z s1 s2
          · by_cases s2 : m < 0
            · exact says_real6 d n s m t w n1 n2 m1 m2 hn hm z s1 s2
            · exact says_real7 d n s m t w n1 n2 m1 m2 hn hm z s1 s2
        · rw [Bool.and_eq_true] at z
          exact says_real3 d n s m t w n1 n2 m1 m2 hn hm z.1 z.2
      · exact says_real2 d n s m t w n1 n2 m1 m2 hn hm
    · exact says_real1 d n s m t w n1 n2 m1 m2 hn
  · exact says_plain d c n s m t w (by simpa using h2) (by simpa using h1)

end Go.Proofs.YtcconhgbefhdeaaDoor
