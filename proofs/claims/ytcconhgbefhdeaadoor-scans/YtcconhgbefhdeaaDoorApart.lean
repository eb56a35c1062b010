import Derived.Test.YtcconhgbefhdeaaDoorBase
import Derived.Test.YtcconhgbefhdeaaDoorShelf
import Derived.Deep.RegionHeld3
import Derived.Deep.DrawnRows
namespace Go.Proofs.YtcconhgbefhdeaaDoor
open Go.RowKit
attribute [local go_sem ↓] Go.wp_at_zero Go.wp_at_succ

set_option maxHeartbeats 400000 in
theorem clone_any (s : ByteArray) (w : World) (hlim : s.size ≤ 281474976710656) :
    Calls Tryd.prog 69 #[.string s] w fun e w' => e = .returned (.string s) ∧ Below w.heap.size w w' := by
  go_enter Tryd.func69, Tryd.ntmps69
  go_wp2_with (go_at_call 81; refine (Tryd.stringslite_Clone _ _ hlim).mono ?_; rintro e w' ⟨rfl, hb⟩)
  go_ret
  exact ⟨rfl, hb⟩

theorem info_value : (Tryd.prog.info? 30).map (fun i => (i.zero, i.size, i.bytes)) = some (some (.agg #[.int .i64 0, .string ⟨#[]⟩]), 2, 24) := by kernel_rfl

theorem make_values (n : Nat) (hn : n ≤ 1000000) : ∃ M : Array Value, M.size = 2 * n ∧ ∀ W : World, (Instr.makeSlice 25 (.int .i64 (n : Int)) (.int .i64 (n : Int))).run Tryd.prog W = .ok (.slice (some ⟨W.heap.size, 0, none⟩) n n) (W.alloc (.cells M 30)) := by
  obtain ⟨i, hi, hz, h2, h24⟩ := info_parts info_value
  refine ⟨madeCells (Value.agg #[.int .i64 0, .string ⟨#[]⟩]).cells (((n : Nat) : Int).toNat * i.size), ?_, fun W => ?_⟩
  · rw [size_madeCells, h2]; omega
  · have h := run_make (P := Tryd.prog) W 25 30 i _ Tryd.underlying25 hi hz .i64 .i64 (n : Int) (n : Int) (by omega) (by omega) (by rw [h24]; omega) (by omega)
    simpa using h

set_option maxHeartbeats 400000 in
theorem apart_any (r : List (Int × ByteArray)) (g cap : Nat) (w : World) (hin : RowIn w g r) (hr : r.length ≤ 1000) (hs : ∀ p ∈ r, p.2.size ≤ 1000000) :
    Calls Tryd.prog 47 #[.slice (some ⟨g, 0, none⟩) r.length cap] w fun e w' => e = .returned (.slice (some ⟨w.heap.size, 0, none⟩) r.length r.length) ∧
      w'.heap[w.heap.size]? = some (.cells (vcells r).toArray 30 (0, 0)) ∧ Below w.heap.size w w' := by
  obtain ⟨M, hMs, hmk⟩ := make_values r.length (by omega)
  go_enter Tryd.func47, Tryd.ntmps47
  go_wp2_with fail
  go_loopw [11] (fun i wr => ∃ k : Nat, k ≤ r.length ∧ i = .int .i64 k ∧ Below w.heap.size w wr ∧ ∃ cur : Array Value, wr.heap[w.heap.size]? = some (.cells cur 30 (0, 0)) ∧ cur.size = 2 * r.length ∧ cur.toList.take (2 * k) = vcells (r.take k)) (fun i _ => r.length - (intOf i).toNat)
  case atStart => exact ⟨0, Nat.zero_le _, rfl, (Below.refl _ _).alloc (Nat.le_refl _) _, M, heap_alloc_new w _, hMs, by simp [vcells]⟩
  case round =>
    obtain ⟨k, hk, rfl, hB, cur, hcur, hsz, htk⟩ := hrel
    by_cases hlt : k < r.length
    · have hg : g < w.heap.size := hin.lt (by omega)
      obtain ⟨c1, c2⟩ := hin k hlt
      have hz : w.heap.size < wr.heap.size := by
        rcases Nat.lt_or_ge w.heap.size wr.heap.size with h | h
        · exact h
        · rw [Array.getElem?_eq_none h] at hcur; cases hcur
      have d1 : wr.cell? ⟨g, k * 2, none⟩ = some (.int .i64 r[k].1) := (hB.cell (p := ⟨g, k * 2, none⟩) hg).trans c1
      have d2 : wr.cell? ⟨g, k * 2 + 1, none⟩ = some (.string r[k].2) := (hB.cell (p := ⟨g, k * 2 + 1, none⟩) hg).trans c2
      have hsk : r[k].2.size ≤ 281474976710656 := by have := hs r[k] (List.getElem_mem hlt); omega
      clear c1 c2
      obtain ⟨x1, e1⟩ : ∃ x, wr.cell? ⟨w.heap.size, k * 2, none⟩ = some x := by
        rw [cell_of_row _ _ _ _ _ _ hcur]; exact ⟨_, Array.getElem?_eq_getElem (by omega)⟩
      obtain ⟨x2, e2⟩ : ∃ x, wr.cell? ⟨w.heap.size, k * 2 + 1, none⟩ = some x := by
        rw [cell_of_row _ _ _ _ _ _ hcur]; exact ⟨_, Array.getElem?_eq_getElem (by omega)⟩
      have f1 : wr.frozen? ⟨w.heap.size, k * 2, none⟩ = false := by simp [World.frozen?, hcur]
      have f2 : wr.frozen? ⟨w.heap.size, k * 2 + 1, none⟩ = false := by simp [World.frozen?, hcur]
      have hz2 : w.heap.size < wr.heap.size + 1 := by omega
      have hz3 : w.heap.size ≤ wr.heap.size := by omega
      have hz4 : ¬ wr.heap.size = w.heap.size := by omega
      have hz5 : ¬ w.heap.size = wr.heap.size := by omega
      have hk0 : (0 : Int) ≤ (k : Int) := by omega
      have hk1 : (k : Int) < (r.length : Int) := by omega
      go_wp2_with fail
      go_region_held3 (fun w' => w'.cell? ⟨wr.heap.size, 0, none⟩ = some (.int .i64 r[k].1) ∧ w'.cell? ⟨wr.heap.size, 1, none⟩ = some (.string r[k].2)) (simp [*, World.cell?_setCell_far])
        (first | (go_at_call 69; refine (clone_any _ _ hsk).mono ?_; rintro e w1 ⟨rfl, hb⟩; obtain ⟨hc, hf⟩ := bcell hb
                  have g1 : w1.cell? ⟨w.heap.size, k * 2, none⟩ = some x1 := by rw [hc _ _ (by simp; omega)]; simp [e1, World.cell?_alloc_some]
                  have g2 : w1.cell? ⟨w.heap.size, k * 2 + 1, none⟩ = some x2 := by rw [hc _ _ (by simp; omega)]; simp [e2, World.cell?_alloc_some]
                  have g3 : w1.frozen? ⟨w.heap.size, k * 2, none⟩ = false := by rw [hf _ _ (by simp; omega)]; simp [f1, frozen_alloc, hz]
                  have g4 : w1.frozen? ⟨w.heap.size, k * 2 + 1, none⟩ = false := by rw [hf _ _ (by simp; omega)]; simp [f2, frozen_alloc, hz]))
      have hw1 : w1.heap[w.heap.size]? = some (.cells cur 30 (0, 0)) := (hb.block _ (by simp; omega)).trans ((Below.heap_alloc _ _ _ hz).trans hcur)
      have hB1 : Below w.heap.size w w1 := (hB.alloc (by omega) _).drew.trans (hb.mono (by simp; omega))
      clear hc hf g1 g2 g3 g4 hb
      go_wp2
      go_roundw
      case rel =>
        refine ⟨k + 1, by omega, by go_num, (hB1.setCell (Nat.le_refl _) _).setCell (Nat.le_refl _) _, _, heap_setCell_same _ _ _ _ _ _ (heap_setCell_same _ _ _ _ _ _ hw1), by simpa using hsz, ?_⟩
        rw [Array.toList_setIfInBounds, Array.toList_setIfInBounds, take_set2 _ _ _ _ (by rw [Array.length_toList]; omega), htk, vcells_take_succ r k hlt]
      case measure => simp [intOf]; omega
    · go_wp2
      go_ret
      have : k = r.length := by omega
      subst this
      refine ⟨rfl, ?_, hB⟩
      rw [hcur]
      have e : cur.toList = vcells r := by
        rw [List.take_of_length_le (by rw [Array.length_toList]; omega), List.take_length] at htk; exact htk
      rw [← e]

end Go.Proofs.YtcconhgbefhdeaaDoor
