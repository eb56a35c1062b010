import Derived.Test.YtcconhgbefhdeaaDoorAnswer
namespace Go.Proofs.YtcconhgbefhdeaaDoor
open Go.RowKit
attribute [local go_sem ↓] Go.wp_at_zero Go.wp_at_succ

theorem info_bool : (Tryd.prog.info? 4).map (fun i => (i.zero, i.size, i.bytes)) = some (some (.bool false), 1, 1) := by kernel_rfl

theorem cell_setCells_far (w : World) (rb o : Nat) (v : Value) (b i : Nat) (h : ¬ b = rb) : (w.setCells rb o [v]).cell? ⟨b, i, none⟩ = w.cell? ⟨b, i, none⟩ :=
  World.cell?_setCells_out rb [v] o w ⟨b, i, none⟩ (fun e => absurd e h)

theorem cmp_close {w w1 : World} {rb m : Nat} {cur : Array Value} {tt : TypeId} {o1 o2 o3 : Obj} (v : Value) (h : w.heap[rb]? = some (.cells cur tt (0, 0))) (hb : Below ((w.alloc o1).alloc o2).drew.heap.size ((w.alloc o1).alloc o2).drew w1) :
    Fr [rb] w ((w1.alloc o3).setCells rb (0 + m * 1) [v]) ∧ ((w1.alloc o3).setCells rb (0 + m * 1) [v]).heap[rb]? = some (.cells (cur.setIfInBounds m v) tt (0, 0)) := by
  have hrb : rb < w.heap.size := (Array.getElem?_eq_some_iff.1 h).1
  have hz : w.heap.size + 2 ≤ w1.heap.size := by have := hb.size; simp at this; omega
  have e : (w1.alloc o3).setCells rb (0 + m * 1) [v] = (w1.alloc o3).setCell ⟨rb, m, none⟩ v := by simp [World.setCells]
  rw [e]
  refine ⟨((((((Fr.refl [rb] w).alloc o1).alloc o2).drew).then hb).alloc o3).setCell (p := ⟨rb, m, none⟩) (.inl (List.mem_singleton.2 rfl)) v, ?_⟩
  refine heap_setCell_same _ _ _ _ _ _ ?_
  rw [Below.heap_alloc _ _ _ (by omega), hb.block rb (by simp; omega)]
  show ((w.alloc o1).alloc o2).heap[rb]? = _
  rw [Below.heap_alloc _ _ _ (by simp; omega), Below.heap_alloc _ _ _ hrb]
  exact h

set_option maxRecDepth 100000 in
set_option maxHeartbeats 1000000 in
theorem answer_cmp (sc scap : Nat) (ks : List Int) (tv : Value) (rb m : Nat) (d n : Int) (c : Nat) (s : ByteArray) (g rcap : Nat) (r : List (Int × ByteArray)) (cur : Array Value) (tt : TypeId) (w : World)
    (hks : KindsIn w sc ks) (hc : c < ks.length) (hin : RowIn w g r) (hcr : c < r.length) (h7 : (d == 7) = false) (h8 : (d == 8) = false) (h9 : (d == 9) = false) (hm : m + 1 ≤ 40)
    (hb : w.heap[rb]? = some (.cells cur tt (0, 0))) (h40 : cur.size = 40) (n1 : ¬ sc = rb) (n2 : ¬ g = rb) :
    Calls Tryd.prog 74 #[.agg #[.slice (some ⟨sc, 0, none⟩) ks.length scap, tv], .slice (some ⟨rb, 0, none⟩) m 40, .agg #[.int .i64 d, .int .i64 c, .int .i64 n, .string s], .slice (some ⟨g, 0, none⟩) r.length rcap] w fun e w' =>
      e = .returned (.slice (some ⟨rb, 0, none⟩) (m + 1) 40) ∧ Fr [rb] w w' ∧ w'.heap[rb]? = some (.cells (cur.setIfInBounds m (.bool (holdsB ks[c] d r[c].1 r[c].2 n s))) tt (0, 0)) := by
  obtain ⟨i0, hi0, hz0, hz1, hz2⟩ := info_parts info_bool
  have hrb : rb < w.heap.size := (Array.getElem?_eq_some_iff.1 hb).1
  have k1 := hks c hc
  obtain ⟨r1, r2⟩ := hin c hcr
  have hsc : sc < w.heap.size := World.block_lt_of_cell? w ⟨sc, c, none⟩ k1
  have hg : g < w.heap.size := World.block_lt_of_cell? w ⟨g, c * 2, none⟩ r1
  obtain ⟨x, hx⟩ : ∃ x, w.cell? ⟨rb, m, none⟩ = some x := by
    rw [cell_of_row _ _ _ _ _ _ hb]; exact ⟨_, Array.getElem?_eq_getElem (by omega)⟩
  have f0 : w.frozen? ⟨rb, m, none⟩ = false := by simp [World.frozen?, hb]
  have HB : Hid (w.heap[rb]? = some (.cells cur tt (0, 0))) := hb
  generalize ks[c] = kk at *
  generalize r[c].1 = rn at *
  generalize r[c].2 = rs at *
  have c1 : (0 : Int) ≤ (c : Int) := by omega
  have c2 : (c : Int) < (ks.length : Int) := by omega
  have c3 : (c : Int) < (r.length : Int) := by omega
  have z1 : sc < w.heap.size + 1 := by omega
  have z2 : g < w.heap.size + 1 := by omega
  have z3 : ¬ w.heap.size = rb := by omega
  have z4 : ¬ w.heap.size + 1 = rb := by omega
  clear hb hks hin hc hcr
  generalize ks.length = kl at *
  generalize r.length = rl at *
  go_enter Tryd.func74, Tryd.ntmps74
  go_wp2_with fail
  go_region_held3 (fun w' => w'.cell? ⟨w.heap.size, 0, none⟩ = some (.slice (some ⟨sc, 0, none⟩) kl scap) ∧ w'.cell? ⟨w.heap.size + 1, 0, none⟩ = some (.int .i64 d) ∧ w'.cell? ⟨w.heap.size + 1, 2, none⟩ = some (.int .i64 n) ∧ w'.cell? ⟨w.heap.size + 1, 3, none⟩ = some (.string s) ∧ w'.cell? ⟨sc, c, none⟩ = some (.int .i64 kk) ∧ w'.cell? ⟨g, c * 2, none⟩ = some (.int .i64 rn) ∧ w'.cell? ⟨g, c * 2 + 1, none⟩ = some (.string rs))
    (simp [*, World.cell?_alloc_some, cell_setCells_far])
    (first
      | (go_at_call 85; refine (holds_any _ _ _ _ _ _ _).mono ?_; rintro e w1 ⟨rfl, hb1⟩
         obtain ⟨hc1, hf1⟩ := bcell hb1
         have hz : w.heap.size + 2 ≤ w1.heap.size := by have := hb1.size; simp at this; omega
         have q1 : w1.cell? ⟨rb, m, none⟩ = some x := (hc1 rb m (by simp; omega)).trans ((cell_alloc _ _ rb m (by simp; omega)).trans ((cell_alloc _ _ rb m hrb).trans hx))
         have q2 : w1.frozen? ⟨rb, m, none⟩ = false := (hf1 rb m (by simp; omega)).trans ((frozen_alloc _ _ rb m (by simp; omega)).trans ((frozen_alloc _ _ rb m hrb).trans f0))
         have p1 : w1.cell? ⟨w.heap.size, 0, none⟩ = some (.slice (some ⟨sc, 0, none⟩) kl scap) := (hc1 _ _ (by simp <;> omega)).trans (by simp)
         have p2 : w1.cell? ⟨sc, c, none⟩ = some (.int .i64 kk) := (hc1 _ _ (by simp; omega)).trans ((cell_alloc _ _ sc c (by simp; omega)).trans ((cell_alloc _ _ sc c hsc).trans k1))
         have p3 : w1.cell? ⟨g, c * 2, none⟩ = some (.int .i64 rn) := (hc1 _ _ (by simp; omega)).trans ((cell_alloc _ _ g _ (by simp; omega)).trans ((cell_alloc _ _ g _ hg).trans r1))
         have p4 : w1.cell? ⟨g, c * 2 + 1, none⟩ = some (.string rs) := (hc1 _ _ (by simp; omega)).trans ((cell_alloc _ _ g _ (by simp; omega)).trans ((cell_alloc _ _ g _ hg).trans r2)))
      | (refine step_append_room (by rfl) _ _ _ (by rfl) 4 i0 1 Tryd.underlying142 hi0 hz1 rb 0 m 40 (by rfl) ⟨w1.heap.size, 0, none⟩ 1 1 [.bool (holdsB kk d rn rs n s)] (by rfl) (by rfl) (World.news_of_block (cs := #[.bool (holdsB kk d rn rs n s)]) (t := 4) (fr := (0, 0)) (heap_alloc_new w1 _)) (by simp [Value.oneCell']) hm
          (fun j hj => by
            have hj0 : j = 0 := by simpa using hj
            subst hj0
            rw [Nat.zero_add, Nat.mul_one, Nat.add_zero, cell_alloc _ _ rb m (by omega), frozen_alloc _ _ rb m (by omega), q1, q2]
            exact ⟨rfl, rfl⟩) ?_))
  clear hc1 hf1 q1 q2 p1 p2 p3 p4
  go_wp2
  go_ret
  exact ⟨rfl, cmp_close _ HB.out hb1⟩

end Go.Proofs.YtcconhgbefhdeaaDoor
