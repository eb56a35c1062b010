import Derived.Test.YtcconhgbefhdeaaDoorPlays
namespace Go.Proofs.YtcconhgbefhdeaaDoor
open Go.RowKit
attribute [local go_sem ↓] Go.wp_at_zero Go.wp_at_succ

theorem OpsA.keep {w w' : World} {sa : Option Addr} {ops : List OpM} (h : OpsA w sa ops) (hF : FrS (fun _ => False) w w') : OpsA w' sa ops := by
  have hb : ∀ k, k < w.heap.size → w'.heap[k]? = w.heap[k]? := fun k hk => hF.block k hk (fun h => h)
  refine ⟨?_, fun o ho => ?_, h.few⟩
  · rcases h.mem with e | ⟨g, zo, e, h2⟩
    · exact .inl e
    · refine .inr ⟨g, zo, e, fun k hk j v hj => ?_⟩
      have e2 := h2 k hk j v hj
      exact (World.cell?_of_block (w := w) (a := ⟨g, zo + k * 8 + j, none⟩) (hb g (World.block_lt_of_cell? w ⟨g, zo + k * 8 + j, none⟩ e2))).trans e2
  · have k := h.ok o ho
    exact ⟨k.ks.keep hb, k.row.keep hb, k.tests.keep hb, k.lk, k.lr, k.lt, k.rg, k.tg, k.kin, k.ain, k.min⟩

theorem two_here (W : World) (o1 o2 : Obj) : ((W.alloc o1).alloc o2).heap[W.heap.size]? = some o1 ∧ ((W.alloc o1).alloc o2).heap[W.heap.size + 1]? = some o2 :=
  ⟨(Below.heap_alloc _ _ _ (by simp)).trans (heap_alloc_new W _), new_at (by simp) o2⟩

def opA : OpM := ⟨3, 0, 0, 0, 0, none, 0, [], none, 0, [], none, 0, []⟩
def opB (g : Nat) : OpM := ⟨3, 0, 0, 0, 0, none, 0, [], none, 0, [], some ⟨g, 0, none⟩, 1, [⟨5, 0, 5, ⟨#[]⟩⟩]⟩

theorem first_ops (w : World) : OpsA ((w.alloc (.cells #[.int .i64 5, .int .i64 0, .int .i64 5, .string ⟨#[]⟩] 32)).alloc (.cells #[.int .i64 3, .int .i64 0, .int .i64 0, .int .i64 0, .slice none 0 0, .slice none 0 0, .slice none 0 0, .int .i64 0, .int .i64 3, .int .i64 0, .int .i64 0, .int .i64 0, .slice none 0 0, .slice none 0 0, .slice (some ⟨w.heap.size, 0, none⟩) 1 1, .int .i64 0] 28)) (some ⟨w.heap.size + 1, 0, none⟩) [opA, opB w.heap.size] := by
  obtain ⟨t1, t2⟩ := two_here w (.cells #[.int .i64 5, .int .i64 0, .int .i64 5, .string ⟨#[]⟩] 32) (.cells #[.int .i64 3, .int .i64 0, .int .i64 0, .int .i64 0, .slice none 0 0, .slice none 0 0, .slice none 0 0, .int .i64 0, .int .i64 3, .int .i64 0, .int .i64 0, .int .i64 0, .slice none 0 0, .slice none 0 0, .slice (some ⟨w.heap.size, 0, none⟩) 1 1, .int .i64 0] 28)
  refine ⟨.inr ⟨_, 0, rfl, fun k hk j v hj => ?_⟩, fun o ho => ?_, by simp⟩
  · rw [cell_of_row _ _ _ _ _ _ t2]
    have hk2 : k = 0 ∨ k = 1 := by simp at hk; omega
    rcases hk2 with rfl | rfl
    · have hj8 : j < 8 := (Array.getElem?_eq_some_iff.1 hj).1
      have hj9 : j = 0 ∨ j = 1 ∨ j = 2 ∨ j = 3 ∨ j = 4 ∨ j = 5 ∨ j = 6 ∨ j = 7 := by omega
      rcases hj9 with rfl | rfl | rfl | rfl | rfl | rfl | rfl | rfl <;> exact hj
    · have hj8 : j < 8 := (Array.getElem?_eq_some_iff.1 hj).1
      have hj9 : j = 0 ∨ j = 1 ∨ j = 2 ∨ j = 3 ∨ j = 4 ∨ j = 5 ∨ j = 6 ∨ j = 7 := by omega
      rcases hj9 with rfl | rfl | rfl | rfl | rfl | rfl | rfl | rfl <;> exact hj
  · have ho2 : o = opA ∨ o = opB w.heap.size := by simpa using ho
    rcases ho2 with rfl | rfl
    · exact ⟨.inl rfl, .inl rfl, .inl rfl, by simp [opA], by simp [opA], by simp [opA], fun i hi => absurd hi (by simp [opA]), fun i hi => absurd hi (by simp [opA]), by simp [opA], by simp [opA], by simp [opA]⟩
    · refine ⟨.inl rfl, .inl rfl, .inr ⟨w.heap.size, 0, rfl, fun i hi => ?_⟩, by simp [opB], by simp [opB], by simp [opB], fun i hi => absurd hi (by simp [opB]), fun i hi => ?_, by simp [opB], by simp [opB], by simp [opB]⟩
      · have hi0 : i = 0 := by simp [opB] at hi; omega
        subst hi0
        rw [cell_of_row _ _ _ _ _ _ t1, cell_of_row _ _ _ _ _ _ t1, cell_of_row _ _ _ _ _ _ t1, cell_of_row _ _ _ _ _ _ t1]
        exact ⟨rfl, rfl, rfl, rfl⟩
      · have hi0 : i = 0 := by simp [opB] at hi; omega
        subst hi0
        simp [opB]

set_option maxRecDepth 100000 in
set_option maxHeartbeats 1000000 in
theorem scans_all (sa : Option Addr) (cap : Nat) (ops : List OpM) (w : World) (hE : ErrType w) (hops : OpsA w sa ops) :
    Calls Tryd.prog 3 #[.slice sa ops.length cap] w fun e w' => e = .returned (.bool true) ∧ FrS (fun _ => False) w w' := by
  have HO : Hid (OpsA w sa ops) := hops
  clear hops
  go_enter Tryd.func3, Tryd.ntmps3
  have b1 := (Below.refl w.heap.size w).alloc (Nat.le_refl _) (.cells #[.int .i64 5, .int .i64 0, .int .i64 5, .string ⟨#[]⟩] 32)
  have b2 := b1.alloc (by simp) (.cells #[.int .i64 3, .int .i64 0, .int .i64 0, .int .i64 0, .slice none 0 0, .slice none 0 0, .slice none 0 0, .int .i64 0, .int .i64 3, .int .i64 0, .int .i64 0, .int .i64 0, .slice none 0 0, .slice none 0 0, .slice (some ⟨w.heap.size, 0, none⟩) 1 1, .int .i64 0] 28)
  have hp := plays_three _ 2 _ _ (hE.below b2) (first_ops w)
  have HB2 := FrS.of_below (S := fun _ => False) b2
  go_wp2_with fail
  refine hp.mono ?_
  clear hp b1 b2
  rintro e w1 ⟨rfl, hF1⟩
  have hF : FrS (fun _ => False) w w1 := HB2.trans hF1 (fun _ h => h.elim)
  have HF : Hid (FrS (fun _ => False) w w1) := hF
  clear HB2 hF1 hF
  go_wp2_with fail
  refine (plays_three sa cap ops w1 (hE.keep (HF.out.block 0 hE.lt (fun h => h))) (HO.out.keep HF.out)).mono ?_
  rintro e w2 ⟨rfl, hF2⟩
  have HG : Hid (FrS (fun _ => False) w w2) := HF.out.trans hF2 (fun _ h => h.elim)
  clear hF2
  go_wp2
  go_ret
  exact ⟨by simp, HG.out⟩

end Go.Proofs.YtcconhgbefhdeaaDoor
