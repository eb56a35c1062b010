import Derived.Test.YtcconhgbefhdeaaDoorBase
import Derived.Deep.QuietTactic
import Derived.BigQuiet
namespace Go.Proofs.YtcconhgbefhdeaaDoor
open Go.RowKit


def isTypeB (k : Int) : Bool := decide (1 ≤ k ∧ k ≤ 4)

set_option maxHeartbeats 400000 in
theorem isType_any (k : Int) (w : World) :
    Calls Tryd.prog 62 #[.int .i64 k] w fun e w' => e = .returned (.bool (isTypeB k)) ∧ w' = w := by
  unfold isTypeB
  go_enter Tryd.func62, Tryd.ntmps62
  go_wp2
  all_goals go_ret
  all_goals simp_all
  all_goals omega

def takesI (d : Int) : Int := if d = 7 ∨ d = 8 then 2 else if d = 9 then 1 else 0

set_option maxHeartbeats 400000 in
theorem takes_any (d : Int) (w : World) :
    Calls Tryd.prog 67 #[.int .i64 d] w fun e w' => e = .returned (.int .i64 (takesI d)) ∧ w' = w := by
  unfold takesI
  go_enter Tryd.func67, Tryd.ntmps67
  go_wp2
  all_goals go_ret
  all_goals simp_all


def pickI (c n : Int) : Int := (if c < 0 then -(c + 1) else c) % n

set_option maxHeartbeats 400000 in
theorem pick_any (c n : Int) (w : World) (h1 : -9223372036854775808 ≤ c) (h2 : c ≤ 9223372036854775807) (hn : 0 < n) (hn2 : n ≤ 1000000) :
    Calls Tryd.prog 18 #[.int .i64 c, .int .i64 n] w fun e w' => e = .returned (.int .i64 (pickI c n)) ∧ w' = w := by
  unfold pickI
  by_cases h : c < 0
  · go_enter Tryd.func18, Tryd.ntmps18
    go_wp2
    all_goals go_ret
    exact ⟨ret_int (by have := Int.tmod_eq_emod_of_nonneg (a := -(c + 1)) (b := n) (by omega); rw [← this, Int.neg_tmod]), rfl⟩
  · go_enter Tryd.func18, Tryd.ntmps18
    go_wp2
    all_goals go_ret
    all_goals simp_all

def magI (n : Int) : Int := if n < 0 then n + 9223372036854775808 else n
def noneB (n : Int) : Bool := decide (9218868437227405312 < magI n)

set_option maxHeartbeats 400000 in
theorem none_any (n : Int) (w : World) (h1 : -9223372036854775808 ≤ n) (h2 : n ≤ 9223372036854775807) :
    Calls Tryd.prog 31 #[.int .i64 n] w fun e w' => e = .returned (.bool (noneB n)) ∧ w' = w := by
  by_cases h : n < 0
  · go_enter Tryd.func31, Tryd.ntmps31
    go_wp2
    go_ret
    exact ⟨ret_bool (by unfold noneB magI; rw [if_pos h]; exact decide_eq_decide.2 (by omega)), rfl⟩
  · go_enter Tryd.func31, Tryd.ntmps31
    go_wp2
    go_ret
    exact ⟨ret_bool (by unfold noneB magI; rw [if_neg (by omega)]), rfl⟩

def bitsN (n : Int) : Nat := (IntKind.u64.wrap n).toNat

theorem run_frombits (x : Int) (w : World) : (callFunc 95 #[.int .u64 x]).run Tryd.prog w = .ok (.value (.float .f64 x.toNat)) w := by
  rw [run_callFunc_extern (fn := Tryd.f95) (e := Extern.MathFloatBits.float64frombits) (by kernel_rfl) (by kernel_rfl) (by kernel_rfl) (by kernel_rfl) (by kernel_rfl)]
  rfl

set_option maxRecDepth 100000 in
set_option maxHeartbeats 400000 in
theorem number_any (n : Int) (s : ByteArray) (w : World) :
    Calls Tryd.prog 87 #[.agg #[.int .i64 n, .string s]] w fun e w' => e = .returned (.float .f64 (bitsN n)) ∧ w' = w.alloc (.cells #[.int .i64 n, .string s] 30) := by
  have hf := run_frombits
  go_enter Tryd.func87, Tryd.ntmps87
  go_wp2
  go_ret
  exact ⟨rfl, rfl⟩

end Go.Proofs.YtcconhgbefhdeaaDoor
