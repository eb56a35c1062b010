import Derived.Test.YtcconhgbefhdeaaDoorSieveNew
import Derived.Deep.RegionLaw
namespace Go.Proofs.YtcconhgbefhdeaaDoor
open Go.RowKit
attribute [local go_sem ↓] Go.wp_at_zero Go.wp_at_succ

theorem stack_close {w : World} {rb i : Nat} {cur : Array Value} {tt : TypeId} (v : Value) (o1 o2 : Obj) (h : w.heap[rb]? = some (.cells cur tt (0, 0))) :
    Fr [rb] w (((w.setCell ⟨rb, i, none⟩ v).alloc o1).alloc o2) ∧ (((w.setCell ⟨rb, i, none⟩ v).alloc o1).alloc o2).heap[rb]? = some (.cells (cur.setIfInBounds i v) tt (0, 0)) := by
  have hrb : rb < w.heap.size := (Array.getElem?_eq_some_iff.1 h).1
  refine ⟨(((Fr.refl [rb] w).setCell (p := ⟨rb, i, none⟩) (.inl (List.mem_singleton.2 rfl)) v).alloc o1).alloc o2, ?_⟩
  rw [Below.heap_alloc _ _ _ (by simp [World.setCell]; omega), Below.heap_alloc _ _ _ (by simp [World.setCell]; omega)]
  exact heap_setCell_same _ _ _ _ _ _ h

set_option maxHeartbeats 1000000 in
theorem answer_and (sv tv rv : Value) (rb m : Nat) (a b : Bool) (c n : Int) (s : ByteArray) (cur : Array Value) (tt : TypeId) (w : World) (hm : m + 2 ≤ 40) (hb : w.heap[rb]? = some (.cells cur tt (0, 0))) (h0 : w.cell? ⟨rb, m, none⟩ = some (.bool a)) (h1 : w.cell? ⟨rb, m + 1, none⟩ = some (.bool b)) :
    Calls Tryd.prog 74 #[.agg #[sv, tv], .slice (some ⟨rb, 0, none⟩) (m + 2) 40, .agg #[.int .i64 7, .int .i64 c, .int .i64 n, .string s], rv] w fun e w' =>
      e = .returned (.slice (some ⟨rb, 0, none⟩) (m + 1) 40) ∧ Fr [rb] w w' ∧ w'.heap[rb]? = some (.cells (cur.setIfInBounds m (.bool (a && b))) tt (0, 0)) := by
  have hrb : rb < w.heap.size := World.block_lt_of_cell? w ⟨rb, m, none⟩ h0
  have f0 : w.frozen? ⟨rb, m, none⟩ = false := by simp [World.frozen?, hb]
  have HB : Hid (w.heap[rb]? = some (.cells cur tt (0, 0))) := hb
  clear hb
  cases a
  all_goals
    go_enter Tryd.func74, Tryd.ntmps74
    go_wp2
    go_ret
    exact ⟨by simp, stack_close _ _ _ HB.out⟩

set_option maxHeartbeats 1000000 in
theorem answer_or (sv tv rv : Value) (rb m : Nat) (a b : Bool) (c n : Int) (s : ByteArray) (cur : Array Value) (tt : TypeId) (w : World) (hm : m + 2 ≤ 40) (hb : w.heap[rb]? = some (.cells cur tt (0, 0))) (h0 : w.cell? ⟨rb, m, none⟩ = some (.bool a)) (h1 : w.cell? ⟨rb, m + 1, none⟩ = some (.bool b)) :
    Calls Tryd.prog 74 #[.agg #[sv, tv], .slice (some ⟨rb, 0, none⟩) (m + 2) 40, .agg #[.int .i64 8, .int .i64 c, .int .i64 n, .string s], rv] w fun e w' =>
      e = .returned (.slice (some ⟨rb, 0, none⟩) (m + 1) 40) ∧ Fr [rb] w w' ∧ w'.heap[rb]? = some (.cells (cur.setIfInBounds m (.bool (a || b))) tt (0, 0)) := by
  have hrb : rb < w.heap.size := World.block_lt_of_cell? w ⟨rb, m, none⟩ h0
  have f0 : w.frozen? ⟨rb, m, none⟩ = false := by simp [World.frozen?, hb]
  have HB : Hid (w.heap[rb]? = some (.cells cur tt (0, 0))) := hb
  clear hb
  cases a
  all_goals
    go_enter Tryd.func74, Tryd.ntmps74
    go_wp2
    go_ret
    exact ⟨by simp, stack_close _ _ _ HB.out⟩

set_option maxHeartbeats 1000000 in
theorem answer_not (sv tv rv : Value) (rb m : Nat) (a : Bool) (c n : Int) (s : ByteArray) (cur : Array Value) (tt : TypeId) (w : World) (hm : m + 1 ≤ 40) (hb : w.heap[rb]? = some (.cells cur tt (0, 0))) (h0 : w.cell? ⟨rb, m, none⟩ = some (.bool a)) :
    Calls Tryd.prog 74 #[.agg #[sv, tv], .slice (some ⟨rb, 0, none⟩) (m + 1) 40, .agg #[.int .i64 9, .int .i64 c, .int .i64 n, .string s], rv] w fun e w' =>
      e = .returned (.slice (some ⟨rb, 0, none⟩) (m + 1) 40) ∧ Fr [rb] w w' ∧ w'.heap[rb]? = some (.cells (cur.setIfInBounds m (.bool (!a))) tt (0, 0)) := by
  have hrb : rb < w.heap.size := World.block_lt_of_cell? w ⟨rb, m, none⟩ h0
  have f0 : w.frozen? ⟨rb, m, none⟩ = false := by simp [World.frozen?, hb]
  have HB : Hid (w.heap[rb]? = some (.cells cur tt (0, 0))) := hb
  clear hb
  go_enter Tryd.func74, Tryd.ntmps74
  go_wp2
  go_ret
  exact ⟨by simp, stack_close _ _ _ HB.out⟩

end Go.Proofs.YtcconhgbefhdeaaDoor
