import Derived.Test.YtcconhgbefhdeaaDoorCheck
namespace Go.Proofs.YtcconhgbefhdeaaDoor
open Go.RowKit
attribute [local go_sem ↓] Go.wp_at_zero Go.wp_at_succ

/-- A test. -/
structure Tst where
  dO : Int
  col : Int
  n : Int
  s : ByteArray

def Tst.agg (t : Tst) : Value := .agg #[.int .i64 t.dO, .int .i64 t.col, .int .i64 t.n, .string t.s]

set_option maxHeartbeats 1000000 in
theorem wrong_cmp (sc scap : Nat) (ks : List Int) (d n : Int) (c : Nat) (s : ByteArray) (a : Int) (w : World) (hks : KindsIn w sc ks) (hd : d = 1 ∨ d = 2 ∨ d = 3 ∨ d = 4 ∨ d = 5 ∨ d = 6) (hc : c < ks.length) (hf : fitsB ks[c] n s = true) :
    Calls Tryd.prog 66 #[.slice (some ⟨sc, 0, none⟩) ks.length scap, .agg #[.int .i64 d, .int .i64 c, .int .i64 n, .string s], .int .i64 a] w fun e w' => e = .returned (.string ⟨#[]⟩) ∧ Below w.heap.size w w' := by
  have k1 := hks c hc
  have hsc : sc < w.heap.size := World.block_lt_of_cell? w ⟨sc, c, none⟩ k1
  generalize ks[c] = kk at k1 hf
  have c1 : (0 : Int) ≤ (c : Int) := by omega
  have c2 : (c : Int) < (ks.length : Int) := by omega
  have c3 : ¬ ((c : Int) < 0) := by omega
  have c4 : ¬ ((ks.length : Int) ≤ (c : Int)) := by omega
  have n1 := World.new_ne _ _ k1
  have HK : Hid (KindsIn w sc ks) := hks
  clear hks
  generalize ks.length = m at *
  rcases hd with rfl | rfl | rfl | rfl | rfl | rfl
  all_goals
    go_enter Tryd.func66, Tryd.ntmps66
    go_wp2_with fail
    go_region_held3 (fun w' => w'.cell? ⟨w.heap.size, 1, none⟩ = some (.int .i64 c) ∧ w'.cell? ⟨w.heap.size, 2, none⟩ = some (.int .i64 n) ∧ w'.cell? ⟨w.heap.size, 3, none⟩ = some (.string s) ∧ w'.cell? ⟨sc, c, none⟩ = some (.int .i64 kk)) (go_keep)
      (first | (go_at_call 80; refine (fits_any _ _ _ _).mono ?_; rintro e w1 ⟨rfl, rfl⟩))
    go_wp2
    go_ret
    exact ⟨rfl, (((Below.refl _ _).alloc (Nat.le_refl _) _).alloc (by simp) _).drew⟩

set_option maxHeartbeats 1000000 in
theorem wrong_not (sv : Value) (c n : Int) (s : ByteArray) (d a : Int) (w : World) (hd : d = 7 ∨ d = 8 ∨ d = 9) (ha : takesI d ≤ a) :
    Calls Tryd.prog 66 #[sv, .agg #[.int .i64 d, .int .i64 c, .int .i64 n, .string s], .int .i64 a] w fun e w' => e = .returned (.string ⟨#[]⟩) ∧ Below w.heap.size w w' := by
  have h2 : ¬ (a < takesI d) := by omega
  rcases hd with rfl | rfl | rfl
  all_goals
    go_enter Tryd.func66, Tryd.ntmps66
    go_wp2_with (go_at_call 67; refine (takes_any _ _).mono ?_; rintro e w' ⟨rfl, rfl⟩)
    go_ret
    exact ⟨rfl, (Below.refl _ _).alloc (Nat.le_refl _) _⟩

end Go.Proofs.YtcconhgbefhdeaaDoor
