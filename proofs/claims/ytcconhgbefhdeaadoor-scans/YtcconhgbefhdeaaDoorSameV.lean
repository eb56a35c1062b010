import Derived.Test.YtcconhgbefhdeaaDoorLent2
import Derived.Test.YtcconhgbefhdeaaDoorSame
namespace Go.Proofs.YtcconhgbefhdeaaDoor
open Go.RowKit
attribute [local go_sem ↓] Go.wp_at_zero Go.wp_at_succ

set_option maxHeartbeats 1000000 in
theorem sameValues_eq (ga gb ca cb : Nat) (r : List (Int × ByteArray)) (w : World) (hA : RowIn w ga r) (hB : RowIn w gb r) (hl : r.length ≤ 9000002) :
    Calls Tryd.prog 40 #[.slice (some ⟨ga, 0, none⟩) r.length ca, .slice (some ⟨gb, 0, none⟩) r.length cb] w fun e w' => e = .returned (.bool true) ∧ ∃ n, w' = w.drewN n := by
  have hne : ((r.length : Int) != (r.length : Int)) = false := by simp
  have HA : Hid (RowIn w ga r) := hA
  have HB : Hid (RowIn w gb r) := hB
  clear hA hB
  go_enter Tryd.func40, Tryd.ntmps40
  go_wp2_with fail
  go_loopw [5] (fun i wr => ∃ k : Nat, k ≤ r.length ∧ i = .int .i64 k ∧ ∃ q, wr = w.drewN q) (fun i _ => r.length - (intOf i).toNat)
  case atStart => exact ⟨0, Nat.zero_le _, rfl, 0, rfl⟩
  case round =>
    obtain ⟨k, hk, rfl, q, rfl⟩ := hrel
    by_cases hlt : k < r.length
    · obtain ⟨c1, c2⟩ := HA.out k hlt
      obtain ⟨c3, c4⟩ := HB.out k hlt
      have i0 : (0 : Int) ≤ (k : Int) := by omega
      have i1 : (k : Int) < (r.length : Int) := by omega
      generalize r[k].1 = n at *
      generalize r[k].2 = s at *
      go_wp2_with fail
      go_quiet (fail)
      go_wp2
      go_roundw
      case rel => exact ⟨k + 1, by omega, by go_num, _, rfl⟩
      case measure => simp [intOf]; omega
    · have i1 : ¬ (k : Int) < (r.length : Int) := by omega
      go_wp2
      go_ret
      exact ⟨rfl, _, rfl⟩

theorem Fr.drewN {S : List Nat} {a w : World} (h : Fr S a w) (n : Nat) : Fr S a (w.drewN n) := ⟨h.os, h.tape, h.output, h.size, h.block⟩

set_option maxRecDepth 100000 in
set_option maxHeartbeats 1000000 in
theorem sameTests_eq (ga gb ca cb : Nat) (T : List Tst) (w : World) (hA : w.heap[ga]? = some (.cells (tcells T).toArray 32 (0, 0))) (hB : TestsIn w gb T) (hne : gb ≠ ga) (h0 : 0 < T.length) (hl : T.length ≤ 9000002) :
    Calls Tryd.prog 58 #[.slice (some ⟨ga, 0, none⟩) T.length ca, .slice (some ⟨gb, 0, none⟩) T.length cb] w fun e w' => e = .returned (.bool true) ∧ Fr [ga] w w' := by
  have hgb : gb < w.heap.size := hB.lt h0
  have hga : ga < w.heap.size := (Array.getElem?_eq_some_iff.1 hA).1
  have HA : Hid (w.heap[ga]? = some (.cells (tcells T).toArray 32 (0, 0))) := hA
  have HB : Hid (TestsIn w gb T) := hB
  clear hA hB
  go_enter Tryd.func58, Tryd.ntmps58
  go_wp2_with fail
  go_loopw [5, 6] (fun o i wr => ∃ k : Nat, k ≤ T.length ∧ o = .bool true ∧ i = .int .i64 k ∧ Fr [ga] w wr ∧ ∃ cur : Array Value, wr.heap[ga]? = some (.cells cur 32 (0, 0)) ∧ cur.size = 4 * T.length ∧ ∀ x, 4 * k ≤ x → cur[x]? = (tcells T)[x]?) (fun _ i _ => T.length - (intOf i).toNat)
  case atStart => exact ⟨0, Nat.zero_le _, by simp, rfl, Fr.refl _ _, _, HA.out, by simp [tcells_length], fun x _ => by simp⟩
  case round =>
    obtain ⟨k, hk, rfl, rfl, hF, cur, hcur, hsz, hc⟩ := hrel
    by_cases hlt : k < T.length
    · obtain ⟨a1, a2, a3, a4⟩ := tcells_at T k hlt
      obtain ⟨b1, b2, b3, b4⟩ := HB.out k hlt
      have e : ∀ o, wr.cell? ⟨gb, o, none⟩ = w.cell? ⟨gb, o, none⟩ := fun o => hF.cell gb o hgb (by simpa using hne)
      rw [← e] at b1 b2 b3 b4
      have x0 : wr.cell? ⟨ga, k * 4, none⟩ = some (.int .i64 T[k].dO) := by rw [cell_of_row _ _ _ _ _ _ hcur, hc _ (by omega), show k * 4 = 4 * k by omega]; exact a1
      have x1 : wr.cell? ⟨ga, k * 4 + 1, none⟩ = some (.int .i64 T[k].col) := by rw [cell_of_row _ _ _ _ _ _ hcur, hc _ (by omega), show k * 4 = 4 * k by omega]; exact a2
      have x2 : wr.cell? ⟨ga, k * 4 + 2, none⟩ = some (.int .i64 T[k].n) := by rw [cell_of_row _ _ _ _ _ _ hcur, hc _ (by omega), show k * 4 = 4 * k by omega]; exact a3
      have x3 : wr.cell? ⟨ga, k * 4 + 3, none⟩ = some (.string T[k].s) := by rw [cell_of_row _ _ _ _ _ _ hcur, hc _ (by omega), show k * 4 = 4 * k by omega]; exact a4
      have f0 : wr.frozen? ⟨ga, k * 4, none⟩ = false := by simp [World.frozen?, hcur]
      have f1 : wr.frozen? ⟨ga, k * 4 + 1, none⟩ = false := by simp [World.frozen?, hcur]
      have f2 : wr.frozen? ⟨ga, k * 4 + 2, none⟩ = false := by simp [World.frozen?, hcur]
      have f3 : wr.frozen? ⟨ga, k * 4 + 3, none⟩ = false := by simp [World.frozen?, hcur]
      have HCUR : Hid (wr.heap[ga]? = some (.cells cur 32 (0, 0))) := hcur
      have HC : Hid (∀ x, 4 * k ≤ x → cur[x]? = (tcells T)[x]?) := hc
      have i0 : (0 : Int) ≤ (k : Int) := by omega
      have i1 : (k : Int) < (T.length : Int) := by omega
      clear hcur hc e a1 a2 a3 a4
      generalize T[k] = t at *
      go_wp2_with fail
      go_quiet (fail)
      go_wp2
      go_roundw
      case rel =>
        refine ⟨k + 1, by omega, by simp, by go_num, ((((hF.drewN _).setCell (p := ⟨ga, _, none⟩) (.inl (by simp)) _).setCell (p := ⟨ga, _, none⟩) (.inl (by simp)) _).setCell (p := ⟨ga, _, none⟩) (.inl (by simp)) _).setCell (p := ⟨ga, _, none⟩) (.inl (by simp)) _, _, heap_setCell_same _ _ _ _ _ _ (heap_setCell_same _ _ _ _ _ _ (heap_setCell_same _ _ _ _ _ _ (heap_setCell_same _ _ _ _ _ _ HCUR.out))), by simpa using hsz, fun x hx => ?_⟩
        rw [Array.getElem?_setIfInBounds_ne (by omega), Array.getElem?_setIfInBounds_ne (by omega), Array.getElem?_setIfInBounds_ne (by omega), Array.getElem?_setIfInBounds_ne (by omega)]
        exact HC.out x (by omega)
      case measure => simp [intOf]; omega
    · have i1 : ¬ (k : Int) < (T.length : Int) := by omega
      clear hc hcur
      go_wp2
      go_ret
      exact ⟨by simp, hF⟩

end Go.Proofs.YtcconhgbefhdeaaDoor
