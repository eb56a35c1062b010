import Derived.Test.YtcconhgbefhdeaaDoorTScan
namespace Go.Proofs.YtcconhgbefhdeaaDoor
open Go.RowKit

theorem pick_lt (c n : Int) (hn : 0 < n) : ∃ k : Nat, (k : Int) < n ∧ pickI c n = (k : Int) := by
  have h1 : 0 ≤ pickI c n := Int.emod_nonneg _ (by omega)
  have h2 : pickI c n < n := Int.emod_lt_of_pos _ hn
  exact ⟨(pickI c n).toNat, by omega, by omega⟩

theorem rawRow_length (r : Raw) : r.row.length = 4 := rfl

/-- The statement's own test, of raw numbers. -/
def rawTest (d c : Int) (r : Raw) : Tst := ⟨1 + pickI d 6, pickI c 4, (r.row.getD (pickI c 4).toNat (0, .empty)).1, (r.row.getD (pickI c 4).toNat (0, .empty)).2⟩

set_option maxHeartbeats 1000000 in
theorem test_ok (d c : Int) (r : Raw) (w : World) (d1 : -9223372036854775808 ≤ d) (d2 : d ≤ 9223372036854775807) (c1 : -9223372036854775808 ≤ c) (c2 : c ≤ 9223372036854775807) (f1 : -9223372036854775808 ≤ r.flag) (f2 : r.flag ≤ 9223372036854775807) :
    Calls Tryd.prog 15 #[.int .i64 d, .int .i64 c, .agg #[.int .i64 r.n, .int .i64 r.bits, .string r.s, .int .i64 r.flag]] w fun e w' =>
      e = .returned (.agg #[.int .i64 (rawTest d c r).dO, .int .i64 (rawTest d c r).col, .int .i64 (rawTest d c r).n, .string (rawTest d c r).s]) ∧ Below w.heap.size w w' := by
  obtain ⟨k, hk, hke⟩ := pick_lt c 4 (by omega)
  obtain ⟨m, hm, hme⟩ := pick_lt d 6 (by omega)
  have hk4 : k < r.row.length := by rw [rawRow_length]; omega
  have HT : Hid (rawTest d c r = ⟨1 + (m : Int), (k : Int), (r.row[k]).1, (r.row[k]).2⟩) := by unfold Hid rawTest; rw [hke, hme]; simp [List.getD, hk4]
  have HKE : Hid (pickI c 4 = (k : Int)) := hke
  have HME : Hid (pickI d 6 = (m : Int)) := hme
  clear hke hme
  go_enter Tryd.func15, Tryd.ntmps15
  go_wp2_with fail
  refine (pick_any _ _ _ c1 c2 (by omega) (by omega)).mono ?_
  rintro e w1 ⟨rfl, rfl⟩
  rw [HKE.out]
  have hk0 : (0 : Int) ≤ (k : Int) := by omega
  go_wp2_with fail
  have hwr : IntKind.i64.wrap (1 + (m : Int)) = 1 + (m : Int) := by rw [IntKind.wrap_i64]; omega
  have hmx : Tryd.prog.follows .mixedOrders = true := by kernel_rfl
  go_region_with
    (first
      | (go_at_call 18; refine (pick_any _ _ _ d1 d2 (by omega) (by omega)).mono ?_; rintro e w1 ⟨rfl, rfl⟩; rw [HME.out])
      | (go_at_call 11; refine (row_ok r _ f1 f2).mono ?_; rintro e w2 ⟨rfl, hr2, hb2⟩
         have y1 : w2.cell? ⟨w.heap.size + 1 + 1 + 1, k * 2, none⟩ = some (.int .i64 r.row[k].1) := by have := (hr2.rowIn k hk4).1; simpa using this
         have y2 : w2.cell? ⟨w.heap.size + 1 + 1 + 1, k * 2 + 1, none⟩ = some (.string r.row[k].2) := by have := (hr2.rowIn k hk4).2; simpa using this
         have k0 : w2.cell? ⟨w.heap.size, 0, none⟩ = some (.int .i64 r.n) := (hb2.cell (p := ⟨w.heap.size, 0, none⟩) (by simp; omega)).trans (by simp)
         have k1 : w2.cell? ⟨w.heap.size, 1, none⟩ = some (.int .i64 r.bits) := (hb2.cell (p := ⟨w.heap.size, 1, none⟩) (by simp; omega)).trans (by simp)
         have k2 : w2.cell? ⟨w.heap.size, 2, none⟩ = some (.string r.s) := (hb2.cell (p := ⟨w.heap.size, 2, none⟩) (by simp; omega)).trans (by simp)
         have k3 : w2.cell? ⟨w.heap.size, 3, none⟩ = some (.int .i64 r.flag) := (hb2.cell (p := ⟨w.heap.size, 3, none⟩) (by simp; omega)).trans (by simp)
         have z0 : w2.cell? ⟨w.heap.size + 1, 0, none⟩ = some (.int .i64 0) := (hb2.cell (p := ⟨w.heap.size + 1, 0, none⟩) (by simp)).trans (by simp)
         have q0 : w2.frozen? ⟨w.heap.size + 1, 0, none⟩ = false := (hb2.frozen (p := ⟨w.heap.size + 1, 0, none⟩) (by simp)).trans (by simp)
         have z1 : w2.cell? ⟨w.heap.size + 1, 1, none⟩ = some (.int .i64 0) := (hb2.cell (p := ⟨w.heap.size + 1, 1, none⟩) (by simp)).trans (by simp)
         have q1 : w2.frozen? ⟨w.heap.size + 1, 1, none⟩ = false := (hb2.frozen (p := ⟨w.heap.size + 1, 1, none⟩) (by simp)).trans (by simp)
         have z2 : w2.cell? ⟨w.heap.size + 1, 2, none⟩ = some (.int .i64 0) := (hb2.cell (p := ⟨w.heap.size + 1, 2, none⟩) (by simp)).trans (by simp)
         have q2 : w2.frozen? ⟨w.heap.size + 1, 2, none⟩ = false := (hb2.frozen (p := ⟨w.heap.size + 1, 2, none⟩) (by simp)).trans (by simp)
         have z3 : w2.cell? ⟨w.heap.size + 1, 3, none⟩ = some (.string ⟨#[]⟩) := (hb2.cell (p := ⟨w.heap.size + 1, 3, none⟩) (by simp)).trans (by simp)
         have q3 : w2.frozen? ⟨w.heap.size + 1, 3, none⟩ = false := (hb2.frozen (p := ⟨w.heap.size + 1, 3, none⟩) (by simp)).trans (by simp)))
  all_goals
    go_wp2
    refine bodyPost_ret (v := .agg #[.int .i64 (1 + (m : Int)), .int .i64 k, .int .i64 r.row[k].1, .string r.row[k].2]) (by simp [results, Tryd.results15, go_sem, z0, z1, z2, z3]) rfl ⟨by rw [HT.out], ?_⟩
    have hs2 := hb2.size
    refine Below.setCell (p := ⟨w.heap.size + 1, 3, none⟩) (Below.setCell (p := ⟨w.heap.size + 1, 2, none⟩) (Below.setCell (p := ⟨w.heap.size + 1, 1, none⟩) (Below.setCell (p := ⟨w.heap.size + 1, 0, none⟩) ?_ (by simp) _) (by simp) _) (by simp) _) (by simp) _
    exact ((((Below.refl _ _).alloc (Nat.le_refl _) _).alloc (by simp) _).drew).trans (hb2.mono (by simp; omega))

end Go.Proofs.YtcconhgbefhdeaaDoor
