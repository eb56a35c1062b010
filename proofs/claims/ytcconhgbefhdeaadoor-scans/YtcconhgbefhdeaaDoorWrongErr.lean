import Derived.Test.YtcconhgbefhdeaaDoorAppErr
import Derived.Test.YtcconhgbefhdeaaDoorSieveNew
namespace Go.Proofs.YtcconhgbefhdeaaDoor
open Go.RowKit
attribute [local go_sem ↓] Go.wp_at_zero Go.wp_at_succ

/-- A text that is not empty. -/
def Said (why : ByteArray) : Prop := why.toList.isEmpty = false
theorem said_of {why : ByteArray} (h : why.toList.isEmpty = false) : Said why := h

set_option maxHeartbeats 1000000 in
theorem wrong_deed (sv : Value) (d c n : Int) (s : ByteArray) (a : Int) (w : World) (hd : d < 1 ∨ 9 < d) :
    Calls Tryd.prog 66 #[sv, .agg #[.int .i64 d, .int .i64 c, .int .i64 n, .string s], .int .i64 a] w fun e w' => ∃ why, e = .returned (.string why) ∧ Said why ∧ Below w.heap.size w w' := by
  have h1 : (d == 1) = false := by rw [beq_eq_false_iff_ne]; omega
  have h2 : (d == 2) = false := by rw [beq_eq_false_iff_ne]; omega
  have h3 : (d == 3) = false := by rw [beq_eq_false_iff_ne]; omega
  have h4 : (d == 4) = false := by rw [beq_eq_false_iff_ne]; omega
  have h5 : (d == 5) = false := by rw [beq_eq_false_iff_ne]; omega
  have h6 : (d == 6) = false := by rw [beq_eq_false_iff_ne]; omega
  have h7 : (d == 7) = false := by rw [beq_eq_false_iff_ne]; omega
  have h8 : (d == 8) = false := by rw [beq_eq_false_iff_ne]; omega
  have h9 : (d == 9) = false := by rw [beq_eq_false_iff_ne]; omega
  go_enter Tryd.func66, Tryd.ntmps66
  go_wp2
  go_ret
  exact ⟨_, rfl, said_of (by kernel_rfl), (Below.refl _ _).alloc (Nat.le_refl _) _⟩

set_option maxHeartbeats 1000000 in
theorem wrong_col (sa : Option Addr) (sl scap : Nat) (d c n : Int) (s : ByteArray) (a : Int) (w : World) (hd : d = 1 ∨ d = 2 ∨ d = 3 ∨ d = 4 ∨ d = 5 ∨ d = 6) (hc : c < 0 ∨ (¬ c < 0 ∧ (sl : Int) ≤ c)) :
    Calls Tryd.prog 66 #[.slice sa sl scap, .agg #[.int .i64 d, .int .i64 c, .int .i64 n, .string s], .int .i64 a] w fun e w' => ∃ why, e = .returned (.string why) ∧ Said why ∧ Below w.heap.size w w' := by
  rcases hc with hc | ⟨hc1, hc2⟩
  all_goals
    rcases hd with rfl | rfl | rfl | rfl | rfl | rfl
    all_goals
      go_enter Tryd.func66, Tryd.ntmps66
      go_wp2
      go_ret
      exact ⟨_, rfl, said_of (by kernel_rfl), (Below.refl _ _).alloc (Nat.le_refl _) _⟩

set_option maxHeartbeats 1000000 in
theorem wrong_fit (sc scap : Nat) (ks : List Int) (d n : Int) (c : Nat) (s : ByteArray) (a : Int) (w : World) (hks : KindsIn w sc ks) (hd : d = 1 ∨ d = 2 ∨ d = 3 ∨ d = 4 ∨ d = 5 ∨ d = 6) (hc : c < ks.length) (hf : fitsB ks[c] n s = false) :
    Calls Tryd.prog 66 #[.slice (some ⟨sc, 0, none⟩) ks.length scap, .agg #[.int .i64 d, .int .i64 c, .int .i64 n, .string s], .int .i64 a] w fun e w' => ∃ why, e = .returned (.string why) ∧ Said why ∧ Below w.heap.size w w' := by
  have k1 := hks c hc
  generalize ks[c] = kk at k1 hf
  have c1 : (0 : Int) ≤ (c : Int) := by omega
  have c2 : (c : Int) < (ks.length : Int) := by omega
  have c3 : ¬ ((c : Int) < 0) := by omega
  have c4 : ¬ ((ks.length : Int) ≤ (c : Int)) := by omega
  have n1 := World.new_ne _ _ k1
  clear hks
  generalize ks.length = m at *
  rcases hd with rfl | rfl | rfl | rfl | rfl | rfl
  all_goals
    go_enter Tryd.func66, Tryd.ntmps66
    go_wp2_with fail
    go_region_held3 (fun w' => w'.cell? ⟨w.heap.size, 1, none⟩ = some (.int .i64 c) ∧ w'.cell? ⟨w.heap.size, 2, none⟩ = some (.int .i64 n) ∧ w'.cell? ⟨w.heap.size, 3, none⟩ = some (.string s) ∧ w'.cell? ⟨sc, c, none⟩ = some (.int .i64 kk)) (go_keep)
      (first | (go_at_call 80; refine (fits_any _ _ _ _).mono ?_; rintro e w1 ⟨rfl, rfl⟩))
    go_wp2
    go_ret
    exact ⟨_, rfl, said_of (by kernel_rfl), (((Below.refl _ _).alloc (Nat.le_refl _) _).alloc (by simp) _).drew⟩

set_option maxHeartbeats 1000000 in
theorem wrong_few (sv : Value) (c n : Int) (s : ByteArray) (d a : Int) (w : World) (hd : d = 7 ∨ d = 8 ∨ d = 9) (ha : a < takesI d) :
    Calls Tryd.prog 66 #[sv, .agg #[.int .i64 d, .int .i64 c, .int .i64 n, .string s], .int .i64 a] w fun e w' => ∃ why, e = .returned (.string why) ∧ Said why ∧ Below w.heap.size w w' := by
  rcases hd with rfl | rfl | rfl
  all_goals
    go_enter Tryd.func66, Tryd.ntmps66
    go_wp2_with (go_at_call 67; refine (takes_any _ _).mono ?_; rintro e w' ⟨rfl, rfl⟩)
    go_ret
    exact ⟨_, rfl, said_of (by kernel_rfl), (Below.refl _ _).alloc (Nat.le_refl _) _⟩

def okTB (ks : List Int) (t : Tst) (a : Int) : Bool :=
  if 1 ≤ t.dO ∧ t.dO ≤ 6 then decide (0 ≤ t.col ∧ t.col < ks.length) && fitsB (ks.getD t.col.toNat 0) t.n t.s
  else if 7 ≤ t.dO ∧ t.dO ≤ 9 then decide (takesI t.dO ≤ a) else false

theorem okTB_iff (ks : List Int) (t : Tst) (a : Int) (h : okTB ks t a = true) : okT ks t a := by
  unfold okTB at h
  split at h
  · rename_i hd
    simp only [Bool.and_eq_true, decide_eq_true_eq] at h
    obtain ⟨⟨h1, h2⟩, h3⟩ := h
    refine .inl ⟨by omega, t.col.toNat, by omega, by omega, ?_⟩
    have hl : t.col.toNat < ks.length := by omega
    simpa [List.getD, hl] using h3
  · split at h
    · rename_i hd
      simp only [decide_eq_true_eq] at h
      exact .inr ⟨by omega, h⟩
    · cases h

theorem wrong_bad (sc scap : Nat) (ks : List Int) (t : Tst) (a : Int) (w : World) (hks : KindsIn w sc ks) (h : okTB ks t a = false) :
    Calls Tryd.prog 66 #[.slice (some ⟨sc, 0, none⟩) ks.length scap, .agg #[.int .i64 t.dO, .int .i64 t.col, .int .i64 t.n, .string t.s], .int .i64 a] w fun e w' => ∃ why, e = .returned (.string why) ∧ Said why ∧ Below w.heap.size w w' := by
  unfold okTB at h
  split at h
  · rename_i hd
    have hd' : t.dO = 1 ∨ t.dO = 2 ∨ t.dO = 3 ∨ t.dO = 4 ∨ t.dO = 5 ∨ t.dO = 6 := by omega
    by_cases hc : 0 ≤ t.col ∧ t.col < ks.length
    · have hl : t.col.toNat < ks.length := by omega
      have he : t.col = (t.col.toNat : Int) := by omega
      simp only [hc, true_and, decide_true, Bool.true_and] at h
      have hf : fitsB ks[t.col.toNat] t.n t.s = false := by simpa [List.getD, hl] using h
      rw [he]
      exact wrong_fit sc scap ks t.dO t.n t.col.toNat t.s a w hks hd' hl hf
    · exact wrong_col _ _ _ t.dO t.col t.n t.s a w hd' (by omega)
  · split at h
    · rename_i hd
      simp only [decide_eq_false_iff_not] at h
      exact wrong_few _ t.col t.n t.s t.dO a w (by omega) (by omega)
    · exact wrong_deed _ t.dO t.col t.n t.s a w (by omega)

end Go.Proofs.YtcconhgbefhdeaaDoor
