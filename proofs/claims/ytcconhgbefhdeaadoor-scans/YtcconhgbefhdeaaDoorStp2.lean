import Derived.Test.YtcconhgbefhdeaaDoorStp
namespace Go.Proofs.YtcconhgbefhdeaaDoor
open Go.RowKit
attribute [local go_sem ↓] Go.wp_at_zero Go.wp_at_succ

/-- A step from a world that only has more. -/
theorem StepPost.from {w w0 w' : World} {wb s : Nat} {col : Nat → Nat} {e : Ending} (hS : FrS (fun _ => False) w w0) (h : StepPost wb (fun b => if b < w.heap.size then col b else 0) s w0 e w') : StepPost wb col s w e w' := by
  obtain ⟨rfl, col', Ts', a1, a2, a3, a4, a5⟩ := h
  have hz := hS.size
  refine ⟨rfl, col', Ts', a1, a2, fun b hb => ?_, ?_, (BookSame.of_same hS).trans a5 hS.size⟩
  · rw [a3 b (by omega)]; exact if_pos hb
  · refine hS.mono (T := fun b => col b ≠ 0) (fun _ h => h.elim) |>.trans a4 (fun j hj => ?_)
    by_cases hlt : j < w.heap.size
    · left
      have hj' : (if j < w.heap.size then col j else 0) ≠ 0 := hj
      rw [if_pos hlt] at hj'
      exact hj'
    · right; omega

set_option maxRecDepth 100000 in
set_option maxHeartbeats 2000000 in
theorem step_scan (wb : Nat) (col : Nat → Nat) (Ts : List Tbl) (s i : Nat) (hi : i < Ts.length) (oat oc on om : Int) (sa : Option Addr) (sl sc : Nat) (ra : Option Addr) (rl rc : Nat) (ta : Option Addr) (tcap : Nat) (T : List Tst) (w : World) (hE : ErrType w) (h : WorldOK w wb col Ts s) (hs : s ≤ 9000000) (hT : TestsA w ta T) (htg : TstRg T) (hl : T.length ≤ 9000000) :
    Calls Tryd.prog 22 #[.pointer (some ⟨wb, 0, none⟩), .pointer (some ⟨Ts[i].bt, 0, none⟩), .pointer (some ⟨Ts[i].br, 0, none⟩), .agg #[.int .i64 3, .int .i64 oat, .int .i64 oc, .int .i64 on, .slice sa sl sc, .slice ra rl rc, .slice ta T.length tcap, .int .i64 om]] w (StepPost wb col s w) := by
  have b0 := (Below.refl w.heap.size w).alloc (Nat.le_refl _) (.cells #[.int .i64 3, .int .i64 oat, .int .i64 oc, .int .i64 on, .slice sa sl sc, .slice ra rl rc, .slice ta T.length tcap, .int .i64 om] 28)
  have hblk := heap_alloc_new w (.cells #[.int .i64 3, .int .i64 oat, .int .i64 oc, .int .i64 on, .slice sa sl sc, .slice ra rl rc, .slice ta T.length tcap, .int .i64 om] 28)
  have hS := FrS.of_below (S := fun _ => False) b0
  have hsc := scans_scan wb _ Ts s i hi oat oc on om (.slice sa sl sc) (.slice ra rl rc) ta tcap T _ (hE.below b0) (h.same (Nat.le_refl s) hS) hs (hT.keep (fun k hk => b0.block k hk)) htg hl
  have HS : Hid (FrS (fun _ => False) w (w.alloc (.cells #[.int .i64 3, .int .i64 oat, .int .i64 oc, .int .i64 on, .slice sa sl sc, .slice ra rl rc, .slice ta T.length tcap, .int .i64 om] 28))) := hS
  clear hS
  generalize Ts[i].bt = bt at *
  generalize Ts[i].br = br at *
  go_enter Tryd.func22, Tryd.ntmps22
  generalize hw0 : w.alloc (.cells #[.int .i64 3, .int .i64 oat, .int .i64 oc, .int .i64 on, .slice sa sl sc, .slice ra rl rc, .slice ta T.length tcap, .int .i64 om] 28) = w0 at *
  have o : ∀ j v, (#[Value.int .i64 3, .int .i64 oat, .int .i64 oc, .int .i64 on, .slice sa sl sc, .slice ra rl rc, .slice ta T.length tcap, .int .i64 om] : Array Value)[j]? = some v → w0.cell? ⟨w.heap.size, j, none⟩ = some v := fun j v hj => by rw [cell_of_row _ _ _ _ _ _ hblk]; exact hj
  have o0 := o 0 _ rfl
  have o1 := o 1 _ rfl
  have o2 := o 2 _ rfl
  have o3 := o 3 _ rfl
  have o4 := o 4 _ rfl
  have o5 := o 5 _ rfl
  have o6 := o 6 _ rfl
  have o7 := o 7 _ rfl
  clear hblk o b0
  go_wp2_with fail
  refine hsc.mono ?_
  clear hsc
  rintro e w1 hp
  have hp2 := StepPost.from HS.out hp
  obtain ⟨rfl, _⟩ := hp
  have HP : Hid (StepPost wb col s w (.returned (.bool true)) w1) := hp2
  clear hp2
  go_wp2
  go_ret
  exact HP.out

end Go.Proofs.YtcconhgbefhdeaaDoor
