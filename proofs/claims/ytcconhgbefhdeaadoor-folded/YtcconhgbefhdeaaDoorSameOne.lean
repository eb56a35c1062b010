import Derived.Test.YtcconhgbefhdeaaDoorSame
namespace Go.Proofs.YtcconhgbefhdeaaDoor
open Go.RowKit

theorem pair_ne {a b : Int × ByteArray} (h : ¬ a = b) : ¬ a.1 = b.1 ∨ (a.1 = b.1 ∧ ¬ a.2 = b.2) := by
  by_cases h1 : a.1 = b.1
  · exact .inr ⟨h1, fun h2 => h (Prod.ext h1 h2)⟩
  · exact .inl h1

theorem bytes_ne {s t : ByteArray} (h : ¬ s = t) : ¬ s.toList = t.toList := fun e => h (by
  rw [ByteArray.toList_eq, ByteArray.toList_eq] at e
  exact ByteArray.ext (Array.ext' e))

set_option maxRecDepth 100000 in
set_option maxHeartbeats 1000000 in
/-- Two lists of one row each: are the rows the same? -/
theorem same_one (ga oa gb ob ca cb g1 g2 : Nat) (rr qq : List (Int × ByteArray)) (w : World) (d1 : w.cell? ⟨ga, oa, none⟩ = some (.slice (some ⟨g1, 0, none⟩) rr.length rr.length)) (d2 : w.cell? ⟨gb, ob, none⟩ = some (.slice (some ⟨g2, 0, none⟩) qq.length qq.length))
    (hrl : rr.length ≤ 100000) (hlen : qq.length = rr.length) (r1 : RowIn w g1 rr) (r2 : RowIn w g2 qq) :
    Calls Tryd.prog 14 #[.slice (some ⟨ga, oa, none⟩) 1 ca, .slice (some ⟨gb, ob, none⟩) 1 cb] w fun e w' => e = .returned (.bool (decide (rr = qq))) ∧ ∃ n, w' = w.drewN n := by
  rw [hlen] at d2
  have R1 : Hid (RowIn w g1 rr) := r1
  have R2 : Hid (RowIn w g2 qq) := r2
  have HL : Hid (qq.length = rr.length) := hlen
  have hne2 : ((rr.length : Int) != (rr.length : Int)) = false := by simp
  clear r1 r2 hlen
  go_enter Tryd.func14, Tryd.ntmps14
  go_wp2_with fail
  go_loopw [5] (fun i wr => ∃ k : Nat, k ≤ 1 ∧ i = .int .i64 k ∧ (k = 1 → rr = qq) ∧ ∃ q, wr = w.drewN q) (fun i _ => 1 - (intOf i).toNat)
  case atStart => exact ⟨0, Nat.zero_le _, rfl, fun h => by omega, 0, rfl⟩
  case round =>
    obtain ⟨k, hk, rfl, hEq, q, rfl⟩ := hrel
    have HEQ : Hid (k = 1 → rr = qq) := hEq
    clear hEq
    by_cases hlt : k < 1
    · obtain rfl : k = 0 := by omega
      go_wp2_with fail
      go_quiet (fail)
      go_wp2_with fail
      go_loopw [6] (fun j wr => ∃ m : Nat, m ≤ rr.length ∧ j = .int .i64 m ∧ (∀ t, t < m → rr[t]? = qq[t]?) ∧ ∃ q', wr = w.drewN q') (fun j _ => rr.length - (intOf j).toNat)
      case atStart => exact ⟨0, Nat.zero_le _, rfl, fun t ht => by omega, _, World.drewN_drewN _ _ _⟩
      case round =>
        obtain ⟨m, hm, rfl, hTt, q', rfl⟩ := hrel
        have HTT : Hid (∀ t, t < m → rr[t]? = qq[t]?) := hTt
        clear hTt
        by_cases hlm : m < rr.length
        · have hlq : m < qq.length := by have := HL.out; omega
          obtain ⟨x1, x2⟩ := R1.out m hlm
          obtain ⟨y1, y2⟩ := R2.out m hlq
          have hm0 : (0 : Int) ≤ (m : Int) := by omega
          have hm1 : (m : Int) < (rr.length : Int) := by omega
          have HE1 : Hid (rr[m]? = some rr[m]) := List.getElem?_eq_getElem hlm
          have HE2 : Hid (qq[m]? = some qq[m]) := List.getElem?_eq_getElem hlq
          generalize rr[m] = va at *
          generalize qq[m] = vb at *
          by_cases he : va = vb
          · subst he
            go_wp2_with fail
            go_quiet (fail)
            go_wp2
            go_roundw
            case rel =>
              refine ⟨m + 1, by omega, by go_num, fun t ht => ?_, _, rfl⟩
              by_cases h : t < m
              · exact HTT.out t h
              · obtain rfl : t = m := by omega
                rw [HE1.out, HE2.out]
            case measure => simp [intOf]; omega
          · have HNE : Hid (decide (rr = qq) = false) := decide_eq_false (fun e => he (by have h1 := HE1.out; rw [e, HE2.out] at h1; exact (Option.some.inj h1).symm))
            rcases pair_ne he with hn | ⟨hn, hs⟩
            · go_wp2_with fail
              go_quiet (fail)
              go_wp2
              go_ret
              exact ⟨by rw [HNE.out]; rfl, _, World.drewN_drewN _ _ _⟩
            · obtain ⟨n1, s1⟩ := va
              obtain ⟨n2, s2⟩ := vb
              dsimp only at *
              subst hn
              clear he
              have hs' := bytes_ne hs
              go_wp2_with fail
              go_quiet (fail)
              go_wp2
              go_ret
              exact ⟨by rw [HNE.out]; rfl, _, World.drewN_drewN _ _ _⟩
        · have hall : Hid (rr = qq) := by
            refine List.ext_getElem? (fun t => ?_)
            by_cases h : t < m
            · exact HTT.out t h
            · rw [List.getElem?_eq_none (by omega), List.getElem?_eq_none (by have := HL.out; omega)]
          go_wp2
          go_roundw
          case rel => exact ⟨1, by omega, by go_num, fun _ => hall.out, q', rfl⟩
          case measure => simp [intOf]
    · go_wp2
      go_ret
      exact ⟨by rw [decide_eq_true (HEQ.out (by omega))]; rfl, q, rfl⟩

theorem same_four (ga oa gb ob ca cb g1 g2 : Nat) (rr qq : List (Int × ByteArray)) (w : World) (d1 : w.cell? ⟨ga, oa, none⟩ = some (.slice (some ⟨g1, 0, none⟩) 4 4)) (d2 : w.cell? ⟨gb, ob, none⟩ = some (.slice (some ⟨g2, 0, none⟩) 4 4))
    (h1 : rr.length = 4) (h2 : qq.length = 4) (r1 : RowIn w g1 rr) (r2 : RowIn w g2 qq) :
    Calls Tryd.prog 14 #[.slice (some ⟨ga, oa, none⟩) 1 ca, .slice (some ⟨gb, ob, none⟩) 1 cb] w fun e w' => e = .returned (.bool (decide (rr = qq))) ∧ Below w.heap.size w w' :=
  (same_one ga oa gb ob ca cb g1 g2 rr qq w (by rw [h1]; exact d1) (by rw [h2]; exact d2) (by omega) (by omega) r1 r2).mono (fun _ _ h => ⟨h.1, by obtain ⟨n, rfl⟩ := h.2; exact drewN_below w n⟩)

end Go.Proofs.YtcconhgbefhdeaaDoor
