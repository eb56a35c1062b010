import Derived.Test.YtcconhgbefhdeaaDoorTScan
import Derived.Deep.QuietTactic
import Derived.BigQuiet
namespace Go.Proofs.YtcconhgbefhdeaaDoor
open Go.RowKit

/-- Rows as they are read. -/
structure RowsIn (w : World) (a : Option Addr) (L : List (Nat × List (Int × ByteArray))) : Prop where
  at' : L = [] ∨ ∃ g, a = some ⟨g, 0, none⟩ ∧ ∀ k (hk : k < L.length), w.cell? ⟨g, k, none⟩ = some (rval L[k])
  blk : ∀ p ∈ L, RowBlk w p

theorem RowsAt.rowsIn {w : World} {base : Nat} {v : Value} {L : List (Nat × List (Int × ByteArray))} (h : RowsAt w base v L) : ∃ a c, v = .slice a L.length c ∧ RowsIn w a L := by
  by_cases hl : 0 < L.length
  · obtain ⟨fg, cp, hv, _, _, hc⟩ := rows_cell h hl
    exact ⟨_, cp, hv, .inr ⟨fg, rfl, hc⟩, fun p hp => (h.blk p hp).2⟩
  · have h0 : L = [] := List.eq_nil_of_length_eq_zero (by omega)
    rcases h.own.2 with ⟨h1, h2⟩ | ⟨gg, cp, _, h1, _⟩
    · exact ⟨none, 0, by rw [h1, h2], .inl h0, fun p hp => (h.blk p hp).2⟩
    · exact ⟨_, cp, h1, .inl h0, fun p hp => (h.blk p hp).2⟩

set_option maxHeartbeats 1000000 in
theorem same_eq (a b : Option Addr) (ca cb : Nat) (A B : List (Nat × List (Int × ByteArray))) (w : World) (hA : RowsIn w a A) (hB : RowsIn w b B) (he : A.map Prod.snd = B.map Prod.snd) (hl : A.length ≤ 100000) (hr : ∀ p ∈ A, p.2.length ≤ 100000) :
    Calls Tryd.prog 14 #[.slice a A.length ca, .slice b B.length cb] w fun e w' => e = .returned (.bool true) ∧ ∃ n, w' = w.drewN n := by
  have hlen : A.length = B.length := by have := congrArg List.length he; simpa using this
  have hne : ((A.length : Int) != (A.length : Int)) = false := by simp
  rw [← hlen]
  have HA : Hid (RowsIn w a A) := hA
  have HBB : Hid (RowsIn w b B) := hB
  have HEE : Hid (A.map Prod.snd = B.map Prod.snd) := he
  have HLN : Hid (A.length = B.length) := hlen
  have HRR : Hid (∀ p ∈ A, p.2.length ≤ 100000) := hr
  clear hA hB he hlen hr
  go_enter Tryd.func14, Tryd.ntmps14
  go_wp2_with fail
  go_loopw [5] (fun i wr => ∃ k : Nat, k ≤ A.length ∧ i = .int .i64 k ∧ ∃ q, wr = w.drewN q) (fun i _ => A.length - (intOf i).toNat)
  case atStart => exact ⟨0, Nat.zero_le _, rfl, 0, rfl⟩
  case round =>
    obtain ⟨k, hk, rfl, q, rfl⟩ := hrel
    by_cases hlt : k < A.length
    · rcases HA.out.at' with h0 | ⟨ga, rfl, hca⟩
      · rw [h0] at hlt; simp at hlt
      have hltB : k < B.length := by have := HLN.out; omega
      rcases HBB.out.at' with h0 | ⟨gb, rfl, hcb⟩
      · rw [h0] at hltB; simp at hltB
      have d1 : w.cell? ⟨ga, k, none⟩ = some (.slice (some ⟨A[k].1, 0, none⟩) A[k].2.length A[k].2.length) := hca k hlt
      have d2 : w.cell? ⟨gb, k, none⟩ = some (.slice (some ⟨B[k].1, 0, none⟩) B[k].2.length B[k].2.length) := hcb k hltB
      have e2 : B[k].2 = A[k].2 := by
        have h1 : (A.map Prod.snd)[k]? = (B.map Prod.snd)[k]? := by rw [HEE.out]
        simp [hlt, hltB] at h1
        exact h1.symm
      have r1 : RowIn w A[k].1 A[k].2 := (HA.out.blk A[k] (List.getElem_mem hlt)).rowIn
      have r2 : RowIn w B[k].1 B[k].2 := (HBB.out.blk B[k] (List.getElem_mem hltB)).rowIn
      rw [e2] at d2 r2
      have hrl : A[k].2.length ≤ 100000 := HRR.out A[k] (List.getElem_mem hlt)
      clear hca hcb e2
      generalize A[k].2 = rr at *
      generalize A[k].1 = g1 at *
      generalize B[k].1 = g2 at *
      have R1 : Hid (RowIn w g1 rr) := r1
      have R2 : Hid (RowIn w g2 rr) := r2
      clear r1 r2
      have hne2 : ((rr.length : Int) != (rr.length : Int)) = false := by simp
      have hk0 : (0 : Int) ≤ (k : Int) := by omega
      have hk1 : (k : Int) < (A.length : Int) := by omega
      go_wp2_with fail
      go_quiet (fail)
      go_wp2_with fail
      go_loopw [6] (fun j wr => ∃ m : Nat, m ≤ rr.length ∧ j = .int .i64 m ∧ ∃ q', wr = w.drewN q') (fun j _ => rr.length - (intOf j).toNat)
      case atStart => exact ⟨0, Nat.zero_le _, rfl, _, World.drewN_drewN _ _ _⟩
      case round =>
        obtain ⟨m, hm, rfl, q', rfl⟩ := hrel
        by_cases hlm : m < rr.length
        · obtain ⟨x1, x2⟩ := R1.out m hlm
          obtain ⟨y1, y2⟩ := R2.out m hlm
          have hm0 : (0 : Int) ≤ (m : Int) := by omega
          have hm1 : (m : Int) < (rr.length : Int) := by omega
          generalize rr[m].1 = vn at *
          generalize rr[m].2 = vs at *
          go_wp2_with fail
          go_quiet (fail)
          go_wp2
          go_roundw
          case rel => exact ⟨m + 1, by omega, by go_num, _, rfl⟩
          case measure => simp [intOf]; omega
        · go_wp2
          go_roundw
          case rel => exact ⟨k + 1, by omega, by go_num, q', rfl⟩
          case measure => simp [intOf]; omega
    · go_wp2
      go_ret
      exact ⟨rfl, q, rfl⟩

theorem drewN_below (w : World) (n : Nat) : Below w.heap.size w (w.drewN n) := ⟨rfl, rfl, rfl, Nat.le_refl _, fun _ _ => rfl⟩

end Go.Proofs.YtcconhgbefhdeaaDoor
