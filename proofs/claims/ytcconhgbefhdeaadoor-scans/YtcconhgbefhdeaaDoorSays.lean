import Derived.Test.YtcconhgbefhdeaaDoorLeaf3
namespace Go.Proofs.YtcconhgbefhdeaaDoor
open Go.RowKit

def tailB (d : Int) (less more : Bool) : Bool :=
  if d = 1 then !less && !more else if d = 2 then less || more else if d = 3 then less else if d = 4 then !more else if d = 5 then more else !less

def realLess (n m : Int) : Bool :=
  if magI n = 0 ∧ magI m = 0 then false else if n < 0 ∧ m < 0 then decide (magI m < magI n) else if n < 0 ∨ m < 0 then decide (n < 0) else decide (n < m)

def saysB (d c n : Int) (s : ByteArray) (m : Int) (t : ByteArray) : Bool :=
  if c = 2 then tailB d (ltS s t) (!ltS s t && !eqS s t)
  else if c = 1 then (if noneB n || noneB m then d == 2 else tailB d (realLess n m) (realLess m n))
  else tailB d (decide (n < m)) (decide (m < n))

set_option maxHeartbeats 400000 in
theorem negative_any (n : Int) (w : World) (h1 : -9223372036854775808 ≤ n) (h2 : n ≤ 9223372036854775807) :
    Calls Tryd.prog 32 #[.int .i64 n] w fun e w' => e = .returned (.tuple #[.bool (decide (n < 0)), .int .i64 (magI n)]) ∧ w' = w := by
  by_cases h : n < 0
  · go_enter Tryd.func32, Tryd.ntmps32
    go_wp2
    go_ret2
    exact ⟨by unfold magI; rw [if_pos h]; simp [h]; omega, rfl⟩
  · go_enter Tryd.func32, Tryd.ntmps32
    go_wp2
    go_ret2
    exact ⟨by unfold magI; rw [if_neg (by omega)]; simp; omega, rfl⟩

set_option maxHeartbeats 400000 in
theorem says_text (d n : Int) (s : ByteArray) (m : Int) (t : ByteArray) (w : World) :
    Calls Tryd.prog 13 #[.int .i64 d, .int .i64 2, .agg #[.int .i64 n, .string s], .agg #[.int .i64 m, .string t]] w fun e w' => e = .returned (.bool (saysB d 2 n s m t)) ∧ Below w.heap.size w w' := by
  go_enter Tryd.func13, Tryd.ntmps13
  go_wp2
  all_goals go_ret
  all_goals refine ⟨ret_bool ?_, ((Below.refl _ _).alloc (Nat.le_refl _) _).alloc (by simp) _⟩
  all_goals unfold saysB tailB ltS eqS
  all_goals simp_all

set_option maxHeartbeats 400000 in
theorem says_plain (d c n : Int) (s : ByteArray) (m : Int) (t : ByteArray) (w : World) (h2 : (c == 2) = false) (h3 : (c == 1) = false) :
    Calls Tryd.prog 13 #[.int .i64 d, .int .i64 c, .agg #[.int .i64 n, .string s], .agg #[.int .i64 m, .string t]] w fun e w' => e = .returned (.bool (saysB d c n s m t)) ∧ Below w.heap.size w w' := by
  go_enter Tryd.func13, Tryd.ntmps13
  go_wp2
  all_goals go_ret
  all_goals refine ⟨ret_bool ?_, ((Below.refl _ _).alloc (Nat.le_refl _) _).alloc (by simp) _⟩
  all_goals unfold saysB tailB
  all_goals simp_all

set_option maxHeartbeats 1000000 in
theorem says_real1 (d n : Int) (s : ByteArray) (m : Int) (t : ByteArray) (w : World) (n1 : -9223372036854775808 ≤ n) (n2 : n ≤ 9223372036854775807) (m1 : -9223372036854775808 ≤ m) (m2 : m ≤ 9223372036854775807) (hn : noneB n = true) :
    Calls Tryd.prog 13 #[.int .i64 d, .int .i64 1, .agg #[.int .i64 n, .string s], .agg #[.int .i64 m, .string t]] w fun e w' => e = .returned (.bool (saysB d 1 n s m t)) ∧ Below w.heap.size w w' := by
  go_enter Tryd.func13, Tryd.ntmps13
  go_wp2_with (first | (go_at_call 31; refine (none_any _ _ (by assumption) (by assumption)).mono ?_; rintro e w' ⟨rfl, rfl⟩) | (go_at_call 32; refine (negative_any _ _ (by assumption) (by assumption)).mono ?_; rintro e w' ⟨rfl, rfl⟩))
  all_goals go_ret
  all_goals refine ⟨ret_bool ?_, ((Below.refl _ _).alloc (Nat.le_refl _) _).alloc (by simp) _⟩
  all_goals unfold saysB tailB realLess
  all_goals simp_all

set_option maxHeartbeats 1000000 in
theorem says_real2 (d n : Int) (s : ByteArray) (m : Int) (t : ByteArray) (w : World) (n1 : -9223372036854775808 ≤ n) (n2 : n ≤ 9223372036854775807) (m1 : -9223372036854775808 ≤ m) (m2 : m ≤ 9223372036854775807) (hn : noneB n = false) (hm : noneB m = true) :
    Calls Tryd.prog 13 #[.int .i64 d, .int .i64 1, .agg #[.int .i64 n, .string s], .agg #[.int .i64 m, .string t]] w fun e w' => e = .returned (.bool (saysB d 1 n s m t)) ∧ Below w.heap.size w w' := by
  go_enter Tryd.func13, Tryd.ntmps13
  go_wp2_with (first | (go_at_call 31; refine (none_any _ _ (by assumption) (by assumption)).mono ?_; rintro e w' ⟨rfl, rfl⟩) | (go_at_call 32; refine (negative_any _ _ (by assumption) (by assumption)).mono ?_; rintro e w' ⟨rfl, rfl⟩))
  all_goals go_ret
  all_goals refine ⟨ret_bool ?_, ((Below.refl _ _).alloc (Nat.le_refl _) _).alloc (by simp) _⟩
  all_goals unfold saysB tailB realLess
  all_goals simp_all

set_option maxHeartbeats 1000000 in
theorem says_real3 (d n : Int) (s : ByteArray) (m : Int) (t : ByteArray) (w : World) (n1 : -9223372036854775808 ≤ n) (n2 : n ≤ 9223372036854775807) (m1 : -9223372036854775808 ≤ m) (m2 : m ≤ 9223372036854775807) (hn : noneB n = false) (hm : noneB m = false) (z1 : (magI n == 0) = true) (z2 : (magI m == 0) = true) :
    Calls Tryd.prog 13 #[.int .i64 d, .int .i64 1, .agg #[.int .i64 n, .string s], .agg #[.int .i64 m, .string t]] w fun e w' => e = .returned (.bool (saysB d 1 n s m t)) ∧ Below w.heap.size w w' := by
  go_enter Tryd.func13, Tryd.ntmps13
  go_wp2_with (first | (go_at_call 31; refine (none_any _ _ (by assumption) (by assumption)).mono ?_; rintro e w' ⟨rfl, rfl⟩) | (go_at_call 32; refine (negative_any _ _ (by assumption) (by assumption)).mono ?_; rintro e w' ⟨rfl, rfl⟩))
  all_goals go_ret
  all_goals refine ⟨ret_bool ?_, ((Below.refl _ _).alloc (Nat.le_refl _) _).alloc (by simp) _⟩
  all_goals unfold saysB tailB realLess
  all_goals simp_all

set_option maxHeartbeats 1000000 in
theorem says_real4 (d n : Int) (s : ByteArray) (m : Int) (t : ByteArray) (w : World) (n1 : -9223372036854775808 ≤ n) (n2 : n ≤ 9223372036854775807) (m1 : -9223372036854775808 ≤ m) (m2 : m ≤ 9223372036854775807) (hn : noneB n = false) (hm : noneB m = false) (z1 : (magI n == 0 && magI m == 0) = false) (s1 : n < 0) (s2 : m < 0) :
    Calls Tryd.prog 13 #[.int .i64 d, .int .i64 1, .agg #[.int .i64 n, .string s], .agg #[.int .i64 m, .string t]] w fun e w' => e = .returned (.bool (saysB d 1 n s m t)) ∧ Below w.heap.size w w' := by
  go_enter Tryd.func13, Tryd.ntmps13
  go_wp2_with (first | (go_at_call 31; refine (none_any _ _ (by assumption) (by assumption)).mono ?_; rintro e w' ⟨rfl, rfl⟩) | (go_at_call 32; refine (negative_any _ _ (by assumption) (by assumption)).mono ?_; rintro e w' ⟨rfl, rfl⟩))
  all_goals go_ret
  all_goals refine ⟨ret_bool ?_, ((Below.refl _ _).alloc (Nat.le_refl _) _).alloc (by simp) _⟩
  all_goals unfold saysB tailB realLess
  all_goals simp_all

end Go.Proofs.YtcconhgbefhdeaaDoor
