import Derived.Test.YtcconhgbefhdeaaDoorFault
import Derived.Test.YtcconhgbefhdeaaDoorNew
import Derived.Deep.QuietTactic
import Derived.BigQuiet
namespace Go.Proofs.YtcconhgbefhdeaaDoor
open Go.RowKit

/-- A refusal, as the inner packages hand it up. -/
def InnerErr (w : World) (v : Value) (k a : Int) : Prop :=
  ∃ eb fb, v = .iface 150 (.pointer (some ⟨eb, 0, none⟩)) ∧ w.cell? ⟨eb, 1, none⟩ = some (.iface 100 (.pointer (some ⟨fb, 0, none⟩))) ∧ w.cell? ⟨fb, 0, none⟩ = some (.int .i64 k) ∧ w.cell? ⟨fb, 1, none⟩ = some (.int .i64 a)

/-- A fault, as the calls answer it. -/
def FaultAt (w : World) (v : Value) (k a : Int) : Prop :=
  ∃ fb, v = .iface 100 (.pointer (some ⟨fb, 0, none⟩)) ∧ w.cell? ⟨fb, 0, none⟩ = some (.int .i64 k) ∧ w.cell? ⟨fb, 1, none⟩ = some (.int .i64 a)

theorem InnerErr.below {w w' : World} {v : Value} {k a : Int} (h : InnerErr w v k a) (hb : Below w.heap.size w w') : InnerErr w' v k a := by
  obtain ⟨eb, fb, rfl, h1, h2, h3⟩ := h
  exact ⟨eb, fb, rfl, (hb.cell (World.block_lt_of_cell? w _ h1)).trans h1, (hb.cell (World.block_lt_of_cell? w _ h2)).trans h2, (hb.cell (World.block_lt_of_cell? w _ h3)).trans h3⟩
theorem FaultAt.below {w w' : World} {v : Value} {k a : Int} (h : FaultAt w v k a) (hb : Below w.heap.size w w') : FaultAt w' v k a := by
  obtain ⟨fb, rfl, h2, h3⟩ := h
  exact ⟨fb, rfl, (hb.cell (World.block_lt_of_cell? w _ h2)).trans h2, (hb.cell (World.block_lt_of_cell? w _ h3)).trans h3⟩

set_option maxHeartbeats 400000 in
theorem refuse_any (why : ByteArray) (k a : Int) (w : World) :
    Calls Tryd.prog 63 #[.string why, .int .i64 k, .int .i64 a] w fun e w' => ∃ eb, e = .returned (.iface 150 (.pointer (some ⟨eb, 0, none⟩))) ∧ InnerErr w' (.iface 150 (.pointer (some ⟨eb, 0, none⟩))) k a ∧ Below w.heap.size w w' := by
  go_enter Tryd.func63, Tryd.ntmps63
  go_wp2
  go_ret
  exact ⟨w.heap.size + 1, rfl, ⟨w.heap.size + 1, w.heap.size, rfl, by simp, by simp, by simp⟩, ((Below.refl _ _).alloc (Nat.le_refl _) _).alloc (by simp) _⟩

set_option maxRecDepth 100000 in
set_option maxHeartbeats 400000 in
theorem faultIn_err (v : Value) (k a : Int) (w : World) (hg : ErrType w) (h : InnerErr w v k a) :
    Calls Tryd.prog 30 #[v] w fun e w' => ∃ fb, e = .returned (.iface 100 (.pointer (some ⟨fb, 0, none⟩))) ∧ FaultAt w' (.iface 100 (.pointer (some ⟨fb, 0, none⟩))) k a ∧ Below w.heap.size w w' := by
  obtain ⟨eb, fb, rfl, h1, h2, h3⟩ := h
  have heb := World.block_lt_of_cell? w _ h1
  have hfb := World.block_lt_of_cell? w _ h2
  simp at heb hfb
  have hg1 : ErrType (w.alloc (.cells #[.pointer none] 100)) := hg.below ((Below.refl _ _).alloc (Nat.le_refl _) _)
  go_enter Tryd.func30, Tryd.ntmps30
  go_wp2_with fail
  refine (as_hit eb ⟨fb, 0, none⟩ ⟨w.heap.size, 0, none⟩ (.pointer none) _ hg1 (by simp) (by simp) ((cell_alloc w _ eb 1 heb).trans h1)).mono ?_
  rintro e w' ⟨rfl, o1, o2, o3, o4, rfl⟩
  have hc : ∀ W : World, w.heap.size < W.heap.size → (∃ x, W.cell? ⟨w.heap.size, 0, none⟩ = some x) → (W.setCell ⟨w.heap.size, 0, none⟩ (.pointer (some ⟨fb, 0, none⟩))).cell? ⟨w.heap.size, 0, none⟩ = some (.pointer (some ⟨fb, 0, none⟩)) := fun W _ ⟨x, hx⟩ => World.cell?_setCell_same W ⟨w.heap.size, 0, none⟩ _ hx
  have hl := hc (((((w.alloc (.cells #[.pointer none] 100)).alloc o1).alloc o2).alloc o3).alloc o4) (by simp; omega) ⟨.pointer none, by
    rw [cell_alloc _ _ _ _ (by simp; omega), cell_alloc _ _ _ _ (by simp; omega), cell_alloc _ _ _ _ (by simp; omega), cell_alloc _ _ _ _ (by simp)]; simp⟩
  clear hc
  have B : Below w.heap.size w ((((((w.alloc (.cells #[.pointer none] 100)).alloc o1).alloc o2).alloc o3).alloc o4).setCell ⟨w.heap.size, 0, none⟩ (.pointer (some ⟨fb, 0, none⟩))) := ((((((Below.refl _ _).alloc (Nat.le_refl _) _).alloc (by simp) _).alloc (by simp; omega) _).alloc (by simp; omega) _).alloc (by simp; omega) _).setCell (Nat.le_refl _) _
  generalize ((((((w.alloc (.cells #[.pointer none] 100)).alloc o1).alloc o2).alloc o3).alloc o4).setCell ⟨w.heap.size, 0, none⟩ (.pointer (some ⟨fb, 0, none⟩))) = w' at *
  go_wp2
  go_ret
  exact ⟨fb, rfl, ⟨fb, rfl, (B.cell (p := ⟨fb, 0, none⟩) hfb).trans h2, (B.cell (p := ⟨fb, 1, none⟩) hfb).trans h3⟩, B⟩

theorem assert_fault (p : Option Addr) (w : World) : (Instr.typeAssert (.iface 100 (.pointer p)) 44 100 true).run Tryd.prog w = .ok (.tuple #[.pointer p, .bool true]) w := by kernel_rfl

set_option maxHeartbeats 400000 in
theorem lawFault_nil (w : World) : Calls Tryd.prog 36 #[.nilIface] w fun e w' => e = .returned (.tuple #[.int .i64 0, .int .i64 0]) ∧ w' = w := by
  go_enter Tryd.func36, Tryd.ntmps36
  go_wp2
  go_ret2
  exact ⟨rfl, rfl⟩
set_option maxRecDepth 100000 in
set_option maxHeartbeats 400000 in
theorem lawFault_err (v : Value) (k a : Int) (w : World) (h : FaultAt w v k a) : Calls Tryd.prog 36 #[v] w fun e w' => e = .returned (.tuple #[.int .i64 k, .int .i64 a]) ∧ ∃ n, w' = w.drewN n := by
  obtain ⟨fb, rfl, h2, h3⟩ := h
  have ta := assert_fault
  go_enter Tryd.func36, Tryd.ntmps36
  go_wp2_with fail
  go_quiet (fail)
  go_wp2
  go_ret2
  exact ⟨rfl, _, rfl⟩

end Go.Proofs.YtcconhgbefhdeaaDoor
