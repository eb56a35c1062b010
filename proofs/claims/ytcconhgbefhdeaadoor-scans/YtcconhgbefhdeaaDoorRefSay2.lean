import Derived.Test.YtcconhgbefhdeaaDoorRefSays
namespace Go.Proofs.YtcconhgbefhdeaaDoor
open Go.RowKit

def tailO (d o : Int) : Bool :=
  if d = 1 then o == 0 else if d = 2 then o != 0 else if d = 3 then decide (o < 0) else if d = 4 then decide (o ≤ 0) else if d = 5 then decide (0 < o) else decide (0 ≤ o)

theorem tailO_tailB (d o : Int) : tailO d o = tailB d (decide (o < 0)) (decide (0 < o)) := by
  unfold tailO tailB
  rw [Bool.eq_iff_iff]
  repeat' split
  all_goals simp
  all_goals omega

def refSaysB (d k n : Int) (s : ByteArray) (m : Int) (t : ByteArray) : Bool :=
  if k = 2 ∧ (noneB n = true ∨ noneB m = true) then d == 2 else tailO d (orderI k n s m t)

theorem order_tail (d a b : Int) : tailO d (if a < b then -1 else if b < a then 1 else 0) = tailB d (decide (a < b)) (decide (b < a)) := by
  rw [tailO_tailB]
  congr 1
  · rw [Bool.eq_iff_iff]; simp only [decide_eq_true_eq]; split <;> (try split) <;> simp <;> omega
  · rw [Bool.eq_iff_iff]; simp only [decide_eq_true_eq]; split <;> (try split) <;> simp <;> omega

theorem order_tail_text (d : Int) (s t : ByteArray) : tailO d (cmpS s t) = tailB d (ltS s t) (!ltS s t && !eqS s t) := by
  rw [tailO_tailB]
  unfold cmpS
  cases ltS s t <;> cases eqS s t <;> rfl

theorem refSays_eq (d k n : Int) (s : ByteArray) (m : Int) (t : ByteArray) (n1 : -9223372036854775808 ≤ n) (n2 : n ≤ 9223372036854775807) (m1 : -9223372036854775808 ≤ m) (m2 : m ≤ 9223372036854775807)
    (d1 : 1 ≤ d) (d6 : d ≤ 6) : refSaysB d k n s m t = holdsB k d n s m t := by
  have ha := agree d (k - 1) n s m t n1 n2 m1 m2 d1 d6
  rw [show k - 1 + 1 = k by omega] at ha
  rw [ha]
  unfold refSaysB saysB
  by_cases h3 : k = 3
  · subst h3
    rw [if_neg (by omega), if_pos (by omega)]
    exact order_tail_text d s t
  · by_cases h2 : k = 2
    · subst h2
      rw [if_neg (by omega : ¬ (2 : Int) - 1 = 2), if_pos (by omega : (2 : Int) - 1 = 1)]
      have ho : orderI 2 n s m t = if keyI n < keyI m then -1 else if keyI m < keyI n then 1 else 0 := by unfold orderI; rw [if_neg (by omega), if_pos rfl]
      by_cases hn : noneB n = true ∨ noneB m = true
      · rw [if_pos ⟨rfl, hn⟩, if_pos (by rcases hn with h | h <;> simp [h])]
      · rw [if_neg (fun h => hn h.2), if_neg (by simpa using hn), realLess_key n m n1 m1, realLess_key m n m1 n1, ho]
        exact order_tail d _ _
    · have ho : orderI k n s m t = if n < m then -1 else if m < n then 1 else 0 := by unfold orderI; rw [if_neg h3, if_neg h2]
      rw [if_neg (fun h => h2 h.1), if_neg (by omega : ¬ k - 1 = 2), if_neg (by omega : ¬ k - 1 = 1), ho]
      exact order_tail d n m

set_option maxRecDepth 100000 in
set_option maxHeartbeats 1000000 in
theorem refSays_any (d k n : Int) (s : ByteArray) (m : Int) (t : ByteArray) (w : World) (n1 : -9223372036854775808 ≤ n) (n2 : n ≤ 9223372036854775807) (m1 : -9223372036854775808 ≤ m) (m2 : m ≤ 9223372036854775807) (hs : s.size ≤ 9000000) :
    Calls Tryd.prog 96 #[.int .i64 d, .int .i64 k, .agg #[.int .i64 n, .string s], .agg #[.int .i64 m, .string t]] w fun e w' => e = .returned (.bool (refSaysB d k n s m t)) ∧ Below w.heap.size w w' := by
  by_cases h2 : k = 2
  · subst h2
    by_cases hn : noneB n = true
    · have HR : Hid (refSaysB d 2 n s m t = (d == 2)) := by unfold Hid refSaysB; rw [if_pos ⟨rfl, .inl hn⟩]
      go_enter Tryd.func96, Tryd.ntmps96
      go_wp2_with (go_at_call 89; refine (refNone_any _ _ (by assumption) (by assumption)).mono ?_; rintro e w' ⟨rfl, rfl⟩)
      all_goals go_ret
      all_goals exact ⟨ret_bool (by rw [HR.out]), ((Below.refl _ _).alloc (Nat.le_refl _) _).alloc (by simp) _⟩
    · have hn' : noneB n = false := by simpa using hn
      by_cases hm : noneB m = true
      · have HR : Hid (refSaysB d 2 n s m t = (d == 2)) := by unfold Hid refSaysB; rw [if_pos ⟨rfl, .inr hm⟩]
        clear hn
        go_enter Tryd.func96, Tryd.ntmps96
        go_wp2_with (go_at_call 89; refine (refNone_any _ _ (by assumption) (by assumption)).mono ?_; rintro e w' ⟨rfl, rfl⟩)
        all_goals go_ret
        all_goals exact ⟨ret_bool (by rw [HR.out]), ((Below.refl _ _).alloc (Nat.le_refl _) _).alloc (by simp) _⟩
      · have hm' : noneB m = false := by simpa using hm
        have HR : Hid (refSaysB d 2 n s m t = tailO d (orderI 2 n s m t)) := by unfold Hid refSaysB; rw [if_neg (by simp [hn', hm'])]
        clear hn hm
        go_enter Tryd.func96, Tryd.ntmps96
        go_wp2_with (first | (go_at_call 89; refine (refNone_any _ _ (by assumption) (by assumption)).mono ?_; rintro e w' ⟨rfl, rfl⟩) | (go_at_call 90; refine (refOrder_any _ _ _ _ _ _ (by assumption) (by assumption) (by assumption) (by assumption) (by assumption)).mono ?_; rintro e w' ⟨rfl, hbl⟩))
        all_goals go_ret
        all_goals refine ⟨ret_bool ?_, (((Below.refl _ _).alloc (Nat.le_refl _) _).alloc (by simp) _).trans (hbl.mono (by simp; omega))⟩
        all_goals rw [HR.out]
        all_goals unfold tailO
        all_goals simp_all
  · have h2' : (k == 2) = false := by simpa using h2
    have HR : Hid (refSaysB d k n s m t = tailO d (orderI k n s m t)) := by unfold Hid refSaysB; rw [if_neg (fun h => h2 h.1)]
    clear h2
    go_enter Tryd.func96, Tryd.ntmps96
    go_wp2_with (go_at_call 90; refine (refOrder_any _ _ _ _ _ _ (by assumption) (by assumption) (by assumption) (by assumption) (by assumption)).mono ?_; rintro e w' ⟨rfl, hbl⟩)
    all_goals go_ret
    all_goals refine ⟨ret_bool ?_, (((Below.refl _ _).alloc (Nat.le_refl _) _).alloc (by simp) _).trans (hbl.mono (by simp; omega))⟩
    all_goals rw [HR.out]
    all_goals unfold tailO
    all_goals simp_all

/-- What the document's answer says of a value is what the program's says. -/
theorem refSays_holds (d k n : Int) (s : ByteArray) (m : Int) (t : ByteArray) (w : World) (n1 : -9223372036854775808 ≤ n) (n2 : n ≤ 9223372036854775807) (m1 : -9223372036854775808 ≤ m) (m2 : m ≤ 9223372036854775807) (hs : s.size ≤ 9000000) (d1 : 1 ≤ d) (d6 : d ≤ 6) :
    Calls Tryd.prog 96 #[.int .i64 d, .int .i64 k, .agg #[.int .i64 n, .string s], .agg #[.int .i64 m, .string t]] w fun e w' => e = .returned (.bool (holdsB k d n s m t)) ∧ Below w.heap.size w w' := by
  have := refSays_any d k n s m t w n1 n2 m1 m2 hs
  rw [refSays_eq d k n s m t n1 n2 m1 m2 d1 d6] at this
  exact this

end Go.Proofs.YtcconhgbefhdeaaDoor
