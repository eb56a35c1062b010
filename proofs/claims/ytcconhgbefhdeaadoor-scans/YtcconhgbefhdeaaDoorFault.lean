import Derived.Test.YtcconhgbefhdeaaDoorAs3
namespace Go.Proofs.YtcconhgbefhdeaaDoor
open Go.RowKit Go.Extern.Stop Go.Stop Go.Extern

/-- The one laid variable, as the walks read it. -/
def ErrType (w : World) : Prop := w.cell? ⟨0, 0, none⟩ = some (.iface 154 (.agg #[.pointer (some ⟨2, 44, none⟩)]))

theorem ErrType.lt {w : World} (h : ErrType w) : 0 < w.heap.size := World.block_lt_of_cell? w ⟨0, 0, none⟩ h
theorem ErrType.keep {w w' : World} (h : ErrType w) (hb : w'.heap[0]? = w.heap[0]?) : ErrType w' := (World.cell?_of_block (w := w) (a := ⟨0, 0, none⟩) hb).trans h
theorem ErrType.below {w w' : World} (h : ErrType w) (hb : Below w.heap.size w w') : ErrType w' := h.keep (hb.block 0 h.lt)

set_option maxRecDepth 100000 in
set_option maxHeartbeats 4000000 in
theorem as_hit (eb : Nat) (f t : Addr) (old : Value) (w : World) (hg : ErrType w) (ht0 : w.cell? t = some old) (hf0 : w.frozen? t = false)
    (he1 : w.cell? ⟨eb, 1, none⟩ = some (.iface 100 (.pointer (some f)))) :
    Calls Tryd.prog 48 #[.iface 150 (.pointer (some ⟨eb, 0, none⟩)), .iface 102 (.pointer (some t))] w
      fun ev w' => ev = .returned (.bool true) ∧ ∃ o1 o2 o3 o4, w' = ((((w.alloc o1).alloc o2).alloc o3).alloc o4).setCell t (.pointer (some f)) := by
  have htl : t.block < w.heap.size := World.block_lt_of_cell? w t ht0
  have hel : eb < w.heap.size := World.block_lt_of_cell? w ⟨eb, 1, none⟩ he1
  have h0 := hg.lt
  have hg2 : ∀ o1 o2, ((w.alloc o1).alloc o2).cell? ⟨0, 0, none⟩ = some (.iface 154 (.agg #[.pointer (some ⟨2, 44, none⟩)])) := fun o1 o2 => (cell_alloc _ _ 0 0 (by simp)).trans ((cell_alloc _ _ 0 0 h0).trans hg)
  have x1 := ext_valueOf
  have x2 := ext_type
  have x3 := ext_isNil
  have x4 := ext_kind
  have x5 := ext_elem
  have x6 := ext_implements
  have x7 := as_valueOfPP
  have x8 := as_typePP
  have x9 := as_methodKind
  have y1 := as_methodElem
  have y2 := as_methodImplements
  have y3 := as_kindPP
  have y4 := as_kindP
  have y5 := as_elemPP
  have y6 := as_implementsP
  have n8 := as_isNilPP ⟨w.heap.size, 0, none⟩ t ((w.alloc (.cells #[.pointer (some t)] 102)).alloc (.cells #[.pointer (some ⟨2, 102, none⟩), .pointer (some ⟨w.heap.size, 0, none⟩), .int .u64 150] 132)) (by simp)
  go_enter Tryd.func48, Tryd.ntmps48
  go_wp2_with fail
  refine (as_inner eb w.heap.size f t old _ _ ((World.cell?_alloc_lt _ _ t (by simp; omega)).trans ((World.cell?_alloc_lt _ _ t htl).trans ht0)) ((World.frozen?_alloc_old _ _ t (by simp; omega)).trans ((World.frozen?_alloc_old _ _ t (Nat.ne_of_lt htl)).trans hf0)) ((cell_alloc _ _ eb 1 (by simp; omega)).trans ((cell_alloc _ _ eb 1 hel).trans he1)) (by simp)).mono ?_
  rintro e w' ⟨rfl, o1, o2, rfl⟩
  go_wp2
  go_ret
  exact ⟨rfl, _, _, _, _, rfl⟩

end Go.Proofs.YtcconhgbefhdeaaDoor
