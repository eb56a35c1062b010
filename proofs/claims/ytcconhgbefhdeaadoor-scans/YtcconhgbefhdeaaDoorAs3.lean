import Derived.Test.YtcconhgbefhdeaaDoorAs2
namespace Go.Proofs.YtcconhgbefhdeaaDoor
open Go.RowKit Go.Extern.Stop Go.Stop Go.Extern

set_option maxRecDepth 100000 in
set_option maxHeartbeats 4000000 in
theorem unwrap_any (eb : Nat) (v : Value) (w : World) (he1 : w.cell? ⟨eb, 1, none⟩ = some v) : Calls Tryd.prog 121 #[.pointer (some ⟨eb, 0, none⟩)] w fun e w' => e = .returned v ∧ w' = w := by
  go_enter Tryd.func121, Tryd.ntmps121
  go_wp2
  go_ret
  exact ⟨rfl, rfl⟩

set_option maxRecDepth 100000 in
set_option maxHeartbeats 4000000 in
theorem as_inner (eb vb : Nat) (f t : Addr) (old tgt : Value) (w : World) (ht0 : w.cell? t = some old) (hf0 : w.frozen? t = false)
    (he1 : w.cell? ⟨eb, 1, none⟩ = some (.iface 100 (.pointer (some f)))) (hv : w.cell? ⟨vb, 0, none⟩ = some (.pointer (some t))) :
    Calls Tryd.prog 73 #[.iface 150 (.pointer (some ⟨eb, 0, none⟩)), tgt, .agg #[.pointer (some ⟨2, 102, none⟩), .pointer (some ⟨vb, 0, none⟩), .int .u64 150], .iface 154 (.agg #[.pointer (some ⟨2, 100, none⟩)])] w
      fun ev w' => ev = .returned (.bool true) ∧ ∃ o1 o2, w' = ((w.alloc o1).alloc o2).setCell t (.pointer (some f)) := by
  have htl : t.block < w.heap.size := World.block_lt_of_cell? w t ht0
  have hvl : vb < w.heap.size := World.block_lt_of_cell? w ⟨vb, 0, none⟩ hv
  have hel : eb < w.heap.size := World.block_lt_of_cell? w ⟨eb, 1, none⟩ he1
  have x1 := ext_typeOf
  have x2 := ext_assignable
  have x3 := as_typeOfR
  have x4 := as_typeOfP
  have x5 := as_assignR
  have x6 := as_assignP
  have x7 := as_methodAssignable
  have x8 := as_noAsR
  have x9 := as_unwrapR
  have y0 := as_methodUnwrap
  go_enter Tryd.func73, Tryd.ntmps73
  go_wp2
  refine wp_loop_rounds 2 ?_
  rw [rounds_succ]
  go_wp2_with fail
  refine (unwrap_any eb (.iface 100 (.pointer (some f))) _ ((cell_alloc w _ eb 1 hel).trans he1)).mono ?_
  rintro e w' ⟨rfl, rfl⟩
  have z1 := ext_elemV
  have z2 := ext_set
  have z3 := ext_valueOf
  have z4 := as_valueOfP
  have el := as_elemVPP ⟨vb, 0, none⟩ t (w.alloc (.cells #[.pointer (some ⟨2, 102, none⟩), .pointer (some ⟨vb, 0, none⟩), .int .u64 150] 132)) ((cell_alloc w _ vb 0 hvl).trans hv)
  have st := as_setP t ⟨w.heap.size + 1, 0, none⟩ f old ((w.alloc (.cells #[.pointer (some ⟨2, 102, none⟩), .pointer (some ⟨vb, 0, none⟩), .int .u64 150] 132)).alloc (.cells #[.pointer (some f)] 100))
    (by rw [World.cell?_alloc_at _ _ _ _ (by simp)]; rfl)
    (by rw [World.cell?_alloc_lt _ _ t (by simp; omega), World.cell?_alloc_lt _ _ t htl]; exact ht0)
    (by rw [World.frozen?_alloc_old _ _ t (by simp; omega), World.frozen?_alloc_old _ _ t (Nat.ne_of_lt htl)]; exact hf0)
  go_wp2
  rw [rounds_succ]
  go_wp2
  go_ret
  exact ⟨rfl, _, _, rfl⟩

end Go.Proofs.YtcconhgbefhdeaaDoor
