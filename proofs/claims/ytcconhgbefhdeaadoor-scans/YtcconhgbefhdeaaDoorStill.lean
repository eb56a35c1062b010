import Derived.Test.YtcconhgbefhdeaaDoorSameV
namespace Go.Proofs.YtcconhgbefhdeaaDoor
open Go.RowKit
attribute [local go_sem ↓] Go.wp_at_zero Go.wp_at_succ

/-- The mark of the i-th list that came out. -/
def markI (i : Nat) : Int := -1000 - ((i / 4 : Nat) : Int)

def marks (i n : Nat) : List (Int × ByteArray) := List.replicate n (markI i, ⟨#[]⟩)

/-- A row that came out, and what was appended to it: as it was written. -/
def KeptRow (w : World) (P : Nat → Prop) (i : Nat) (v : Value) : Prop :=
  ∃ a n c, v = .slice a n c ∧ n ≤ 1000000000 ∧ (n = 0 ∨ ∃ g, a = some ⟨g, 0, none⟩ ∧ P g ∧ RowIn w g (marks i n))

/-- A list of rows that came out. -/
def KeptRows (w : World) (P : Nat → Prop) (i : Nat) (v : Value) : Prop :=
  ∃ a n c, v = .slice a n c ∧ n ≤ 1000000000 ∧ (n = 0 ∨ ∃ g, a = some ⟨g, 0, none⟩ ∧ P g ∧ ∀ k, k < n → ∃ m cm, P m ∧ w.cell? ⟨g, k, none⟩ = some (.slice (some ⟨m, 0, none⟩) 1 cm) ∧ RowIn w m (marks i 1))

/-- A list of slices as it lies in memory. -/
def ListIn (w : World) (a : Option Addr) (vs : List Value) : Prop := vs = [] ∨ ∃ g, a = some ⟨g, 0, none⟩ ∧ ∀ k (h : k < vs.length), w.cell? ⟨g, k, none⟩ = some vs[k]

set_option maxRecDepth 100000 in
set_option maxHeartbeats 2000000 in
theorem still_ok (wb lc rc : Nat) (la ra : Option Addr) (ls rws : List Value) (P : Nat → Prop) (w : World) (c2 : w.cell? ⟨wb, 2, none⟩ = some (.slice la ls.length lc)) (c3 : w.cell? ⟨wb, 3, none⟩ = some (.slice ra rws.length rc))
    (hl : ListIn w la ls) (hr : ListIn w ra rws) (bl : ls.length ≤ 1000000000000) (br : rws.length ≤ 1000000000000)
    (kl : ∀ i (h : i < ls.length), KeptRow w P i ls[i]) (kr : ∀ i (h : i < rws.length), KeptRows w P i rws[i]) :
    Calls Tryd.prog 23 #[.pointer (some ⟨wb, 0, none⟩)] w fun e w' => e = .returned (.bool true) ∧ w' = w := by
  have HL : Hid (ListIn w la ls) := hl
  have HR : Hid (ListIn w ra rws) := hr
  have KL : Hid (∀ i (h : i < ls.length), KeptRow w P i ls[i]) := kl
  have KR : Hid (∀ i (h : i < rws.length), KeptRows w P i rws[i]) := kr
  clear hl hr kl kr
  go_enter Tryd.func23, Tryd.ntmps23
  go_wp2_with fail
  go_loop [3] (fun i => ∃ k : Nat, k ≤ ls.length ∧ i = .int .i64 k) (fun i => ls.length - (intOf i).toNat)
  case atStart => exact ⟨0, Nat.zero_le _, rfl⟩
  case round =>
    obtain ⟨k, hk, rfl⟩ := hrel
    by_cases hlt : k < ls.length
    · rcases HL.out with h0 | ⟨g, rfl, hg⟩
      · rw [h0] at hlt; simp at hlt
      obtain ⟨a, n, c, hv, hn, hkr⟩ := KL.out k hlt
      have d1 : w.cell? ⟨g, k, none⟩ = some (.slice a n c) := by rw [hg k hlt, hv]
      have i0 : (0 : Int) ≤ (k : Int) := by omega
      have i1 : (k : Int) < (ls.length : Int) := by omega
      clear hg hv
      have HKR : Hid (n = 0 ∨ ∃ g, a = some ⟨g, 0, none⟩ ∧ P g ∧ RowIn w g (marks k n)) := hkr
      clear hkr
      go_wp2_with fail
      go_loop [4] (fun j => ∃ m : Nat, m ≤ n ∧ j = .int .i64 m) (fun j => n - (intOf j).toNat)
      case atStart => exact ⟨0, Nat.zero_le _, rfl⟩
      case round =>
        obtain ⟨m, hm, rfl⟩ := hrel
        by_cases hml : m < n
        · rcases HKR.out with h0 | ⟨rg, rfl, hP, hrow⟩
          · omega
          obtain ⟨x1, x2⟩ := hrow m (by unfold marks; simpa using hml)
          have e : (marks k n)[m]'(by unfold marks; simpa using hml) = (markI k, ⟨#[]⟩) := by unfold marks; simp
          rw [e] at x1 x2
          have j0 : (0 : Int) ≤ (m : Int) := by omega
          have j1 : (m : Int) < (n : Int) := by omega
          have hmk : markI k = -1000 - (k : Int) / 4 := by unfold markI; omega
          have hmb : -1000 - (k : Int) / 4 ≤ 0 ∧ -9000000000000 ≤ -1000 - (k : Int) / 4 := by omega
          rw [hmk] at x1
          clear hrow e hP hmk
          go_wp2
          go_round
          case rel => exact ⟨m + 1, by omega, by go_num⟩
          case measure => simp [intOf]; omega
        · have j1 : ¬ (m : Int) < (n : Int) := by omega
          go_wp2
          go_round
          case rel => exact ⟨k + 1, by omega, by go_num⟩
          case measure => simp [intOf]; omega
    · have i1 : ¬ (k : Int) < (ls.length : Int) := by omega
      go_wp2_with fail
      go_loop [5] (fun i => ∃ k : Nat, k ≤ rws.length ∧ i = .int .i64 k) (fun i => rws.length - (intOf i).toNat)
      case atStart => exact ⟨0, Nat.zero_le _, rfl⟩
      case round =>
        obtain ⟨k, hk, rfl⟩ := hrel
        by_cases hlt : k < rws.length
        · rcases HR.out with h0 | ⟨g, rfl, hg⟩
          · rw [h0] at hlt; simp at hlt
          obtain ⟨a, n, c, hv, hn, hkr⟩ := KR.out k hlt
          have d1 : w.cell? ⟨g, k, none⟩ = some (.slice a n c) := by rw [hg k hlt, hv]
          have i0 : (0 : Int) ≤ (k : Int) := by omega
          have i1 : (k : Int) < (rws.length : Int) := by omega
          clear hg hv
          have HKR : Hid (n = 0 ∨ ∃ g, a = some ⟨g, 0, none⟩ ∧ P g ∧ ∀ j, j < n → ∃ m cm, P m ∧ w.cell? ⟨g, j, none⟩ = some (.slice (some ⟨m, 0, none⟩) 1 cm) ∧ RowIn w m (marks k 1)) := hkr
          clear hkr
          go_wp2_with fail
          go_loop [6] (fun j => ∃ m : Nat, m ≤ n ∧ j = .int .i64 m) (fun j => n - (intOf j).toNat)
          case atStart => exact ⟨0, Nat.zero_le _, rfl⟩
          case round =>
            obtain ⟨m, hm, rfl⟩ := hrel
            by_cases hml : m < n
            · rcases HKR.out with h0 | ⟨rg, rfl, hP, hrow⟩
              · omega
              obtain ⟨mg, cm, hPm, hmc, hmr⟩ := hrow m hml
              obtain ⟨x1, x2⟩ := hmr 0 (by unfold marks; simp)
              have e : (marks k 1)[0]'(by unfold marks; simp) = (markI k, ⟨#[]⟩) := by unfold marks; simp
              rw [e] at x1 x2
              rw [Nat.zero_mul] at x1
              have j0 : (0 : Int) ≤ (m : Int) := by omega
              have j1 : (m : Int) < (n : Int) := by omega
              have hmk : markI k = -1000 - (k : Int) / 4 := by unfold markI; omega
              have hmb : -1000 - (k : Int) / 4 ≤ 0 ∧ -9000000000000 ≤ -1000 - (k : Int) / 4 := by omega
              rw [hmk] at x1
              clear hrow e hP hmk hPm hmr
              go_wp2
              go_round
              case rel => exact ⟨m + 1, by omega, by go_num⟩
              case measure => simp [intOf]; omega
            · have j1 : ¬ (m : Int) < (n : Int) := by omega
              go_wp2
              go_round
              case rel => exact ⟨k + 1, by omega, by go_num⟩
              case measure => simp [intOf]; omega
        · have i1 : ¬ (k : Int) < (rws.length : Int) := by omega
          go_wp2
          go_ret
          exact ⟨rfl, rfl⟩

end Go.Proofs.YtcconhgbefhdeaaDoor
