import Derived.Test.YtcconhgbefhdeaaDoorLeaf2
import Derived.Deep.RegionHeld3
import Derived.Deep.DrawnRows
namespace Go.Proofs.YtcconhgbefhdeaaDoor
open Go.RowKit

attribute [local go_sem ↓] Go.wp_at_zero Go.wp_at_succ

def cmpB (d : Int) (eq lt gt : Bool) : Bool :=
  if d = 1 then eq else if d = 2 then !eq else if d = 3 then lt else if d = 4 then lt || eq else if d = 5 then gt else if d = 6 then gt || eq else false

set_option maxHeartbeats 400000 in
theorem holdsI_any (d a b : Int) (w : World) :
    Calls Tryd.prog 93 #[.int .i64 d, .int .i64 a, .int .i64 b] w fun e w' => e = .returned (.bool (cmpB d (a == b) (decide (a < b)) (decide (b < a)))) ∧ w' = w := by
  go_enter Tryd.func93, Tryd.ntmps93
  go_wp2
  all_goals go_ret
  all_goals refine ⟨ret_bool ?_, rfl⟩
  all_goals unfold cmpB
  all_goals simp_all
  all_goals (rw [Bool.eq_iff_iff]; simp; try omega)

set_option maxHeartbeats 400000 in
theorem holdsF_any (d : Int) (a b : Nat) (w : World) :
    Calls Tryd.prog 91 #[.int .i64 d, .float .f64 a, .float .f64 b] w fun e w' => e = .returned (.bool (cmpB d (Ieee.double.order a b == some .eq) (Ieee.double.order a b == some .lt) (Ieee.double.order a b == some .gt))) ∧ w' = w := by
  go_enter Tryd.func91, Tryd.ntmps91
  go_wp2
  all_goals go_ret
  all_goals refine ⟨ret_bool ?_, rfl⟩
  all_goals unfold cmpB
  all_goals simp_all
  all_goals rfl

theorem bytesLess_irrefl (l : List UInt8) : Op.bytesLess l l = false := by
  induction l with
  | nil => rfl
  | cons c l ih => simp [Op.bytesLess, ih]

def ltS (a b : ByteArray) : Bool := Op.bytesLess a.toList b.toList
def eqS (a b : ByteArray) : Bool := a.toList == b.toList
theorem ltS_eqS (a b : ByteArray) (h : eqS a b = true) : ltS a b = false := by
  unfold eqS at h; unfold ltS; rw [eq_of_beq h]; exact bytesLess_irrefl _

set_option maxHeartbeats 400000 in
theorem holdsS_any (d : Int) (a b : ByteArray) (w : World) :
    Calls Tryd.prog 92 #[.int .i64 d, .string a, .string b] w fun e w' => e = .returned (.bool (cmpB d (eqS a b) (ltS a b) (!ltS a b && !eqS a b))) ∧ w' = w := by
  go_enter Tryd.func92, Tryd.ntmps92
  go_wp2
  all_goals go_ret
  all_goals refine ⟨ret_bool ?_, rfl⟩
  all_goals unfold cmpB
  all_goals simp_all [ltS, eqS]
  all_goals (have hx := ltS_eqS a b; unfold ltS eqS at hx; cases h1 : (a.toList == b.toList) <;> simp_all)

def fitsB (k n : Int) (s : ByteArray) : Bool :=
  if k = 1 ∨ k = 2 then s.toList.isEmpty else if k = 3 then decide (n = 0 ∧ s.size ≤ 40) else if k = 4 then s.toList.isEmpty && (n == 0 || n == 1) else false

set_option maxHeartbeats 400000 in
theorem fits_any (k n : Int) (s : ByteArray) (w : World) :
    Calls Tryd.prog 80 #[.int .i64 k, .agg #[.int .i64 n, .string s]] w fun e w' => e = .returned (.bool (fitsB k n s)) ∧ w' = w.alloc (.cells #[.int .i64 n, .string s] 30) := by
  go_enter Tryd.func80, Tryd.ntmps80
  go_wp2
  all_goals go_ret
  all_goals refine ⟨ret_bool ?_, by first | rfl | simp_all⟩
  all_goals unfold fitsB
  all_goals simp_all
  all_goals omega

def holdsB (k d n : Int) (s : ByteArray) (m : Int) (t : ByteArray) : Bool :=
  if k = 2 then cmpB d (Ieee.double.order (bitsN n) (bitsN m) == some .eq) (Ieee.double.order (bitsN n) (bitsN m) == some .lt) (Ieee.double.order (bitsN n) (bitsN m) == some .gt)
  else if k = 3 then cmpB d (eqS s t) (ltS s t) (!ltS s t && !eqS s t)
  else cmpB d (n == m) (decide (n < m)) (decide (m < n))

set_option maxHeartbeats 400000 in
theorem holds_real (d n : Int) (s : ByteArray) (m : Int) (t : ByteArray) (w : World) :
    Calls Tryd.prog 85 #[.int .i64 2, .int .i64 d, .agg #[.int .i64 n, .string s], .agg #[.int .i64 m, .string t]] w fun e w' => e = .returned (.bool (holdsB 2 d n s m t)) ∧ Below w.heap.size w w' := by
  go_enter Tryd.func85, Tryd.ntmps85
  go_wp2_with fail
  go_region_held3 (fun w' => w'.cell? ⟨w.heap.size, 0, none⟩ = some (.int .i64 n) ∧ w'.cell? ⟨w.heap.size, 1, none⟩ = some (.string s) ∧ w'.cell? ⟨w.heap.size + 1, 0, none⟩ = some (.int .i64 m) ∧ w'.cell? ⟨w.heap.size + 1, 1, none⟩ = some (.string t)) (go_keep)
    (first | (go_at_call 87; refine (number_any _ _ _).mono ?_; rintro e w1 ⟨rfl, rfl⟩) | (go_at_call 91; refine (holdsF_any _ _ _ _).mono ?_; rintro e w1 ⟨rfl, rfl⟩))
  all_goals go_wp2
  all_goals go_ret
  all_goals exact ⟨ret_bool (by simp [holdsB]), (((((Below.refl _ _).alloc (Nat.le_refl _) _).alloc (by simp) _).alloc (by simp; try omega) _).alloc (by simp; try omega) _).drew⟩

set_option maxHeartbeats 400000 in
theorem holds_text (d n : Int) (s : ByteArray) (m : Int) (t : ByteArray) (w : World) :
    Calls Tryd.prog 85 #[.int .i64 3, .int .i64 d, .agg #[.int .i64 n, .string s], .agg #[.int .i64 m, .string t]] w fun e w' => e = .returned (.bool (holdsB 3 d n s m t)) ∧ Below w.heap.size w w' := by
  go_enter Tryd.func85, Tryd.ntmps85
  go_wp2_with (go_at_call 92; refine (holdsS_any _ _ _ _).mono ?_; rintro e w' ⟨rfl, rfl⟩)
  go_ret
  exact ⟨ret_bool (by simp [holdsB]), ((Below.refl _ _).alloc (Nat.le_refl _) _).alloc (by simp) _⟩

set_option maxHeartbeats 400000 in
theorem holds_int (k d n : Int) (s : ByteArray) (m : Int) (t : ByteArray) (w : World) (h2 : k ≠ 2) (h3 : k ≠ 3) :
    Calls Tryd.prog 85 #[.int .i64 k, .int .i64 d, .agg #[.int .i64 n, .string s], .agg #[.int .i64 m, .string t]] w fun e w' => e = .returned (.bool (holdsB k d n s m t)) ∧ Below w.heap.size w w' := by
  go_enter Tryd.func85, Tryd.ntmps85
  go_wp2_with (go_at_call 93; refine (holdsI_any _ _ _ _).mono ?_; rintro e w' ⟨rfl, rfl⟩)
  go_ret
  exact ⟨ret_bool (by simp [holdsB, h2, h3]), ((Below.refl _ _).alloc (Nat.le_refl _) _).alloc (by simp) _⟩

theorem holds_any (k d n : Int) (s : ByteArray) (m : Int) (t : ByteArray) (w : World) :
    Calls Tryd.prog 85 #[.int .i64 k, .int .i64 d, .agg #[.int .i64 n, .string s], .agg #[.int .i64 m, .string t]] w fun e w' => e = .returned (.bool (holdsB k d n s m t)) ∧ Below w.heap.size w w' := by
  by_cases h2 : k = 2
  · subst h2; exact holds_real d n s m t w
  · by_cases h3 : k = 3
    · subst h3; exact holds_text d n s m t w
    · exact holds_int k d n s m t w h2 h3

end Go.Proofs.YtcconhgbefhdeaaDoor
