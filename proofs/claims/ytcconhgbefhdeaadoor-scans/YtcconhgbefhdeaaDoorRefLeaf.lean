import Derived.Test.YtcconhgbefhdeaaDoorAgree
import Derived.Test.YtcconhgbefhdeaaDoorNewErr
import Derived.Test.YtcconhgbefhdeaaDoorOffs
namespace Go.Proofs.YtcconhgbefhdeaaDoor
open Go.RowKit

set_option maxHeartbeats 400000 in
theorem refSchema_any (sa : Option Addr) (cap : Nat) (ks : List Int) (w : World) (hks : KindsA w sa ks) (hl : ks.length ≤ 9000000) :
    Calls Tryd.prog 37 #[.slice sa ks.length cap] w fun e w' => e = .returned (.tuple #[.int .i64 (schemaFault ks).1, .int .i64 (schemaFault ks).2]) ∧ w' = w := by
  have HK : Hid (KindsA w sa ks) := hks
  clear hks
  have ity : ∀ x, isTypeB x = true → ¬ x < 1 ∧ ¬ 4 < x := fun x h => by unfold isTypeB at h; simp at h; omega
  have itn : ∀ x, isTypeB x = false → x < 1 ∨ (¬ x < 1 ∧ 4 < x) := fun x h => by unfold isTypeB at h; simp at h; omega
  have ITY : Hid (∀ x, isTypeB x = true → ¬ x < 1 ∧ ¬ 4 < x) := ity
  have ITN : Hid (∀ x, isTypeB x = false → x < 1 ∨ (¬ x < 1 ∧ 4 < x)) := itn
  clear ity itn
  cases hb : badKind ks 0 with
  | some i =>
    obtain ⟨hi, hbad, hgood⟩ := badKind_at ks i hb
    have HA : Hid (schemaFault ks = (1, (i : Int))) := by unfold schemaFault Hid; rw [hb]
    have HG : Hid (∀ j (hj : j < i), isTypeB (ks[j]'(by omega)) = true) := hgood
    have HBD : Hid (isTypeB ks[i] = false) := hbad
    rcases HK.out with h0 | ⟨g, zo, rfl, hin⟩
    · rw [h0] at hi; simp at hi
    have HIN : Hid (KindsO w g zo ks) := hin
    clear hb hin hgood hbad
    rw [HA.out]
    go_enter Tryd.func37, Tryd.ntmps37
    go_wp2_with fail
    go_loop [4] (fun x => ∃ k : Nat, k ≤ i ∧ x = .int .i64 k) (fun x => ks.length - (intOf x).toNat)
    case atStart => exact ⟨0, Nat.zero_le _, rfl⟩
    case round =>
      obtain ⟨k, hk, rfl⟩ := hrel
      have hlt : k < ks.length := by omega
      have d1 := HIN.out k hlt
      have hk1 : (k : Int) < (ks.length : Int) := by omega
      by_cases hki : k < i
      · obtain ⟨a1, a2⟩ := ITY.out _ (HG.out k hki)
        go_wp2
        go_round
        case rel => exact ⟨k + 1, by omega, by go_num⟩
        case measure => simp [intOf]; omega
      · have hke : k = i := by omega
        subst hke
        rcases ITN.out _ HBD.out with a1 | ⟨a1, a2⟩
        all_goals
          go_wp2
          go_ret2
          exact ⟨rfl, rfl⟩
  | none =>
    have hall := badKind_none ks 0 hb
    have HALL : Hid (∀ x ∈ ks, isTypeB x = true) := hall
    have HA : Hid (schemaFault ks = if ks.length < 1 ∨ 6 < ks.length then (1, -1) else (0, 0)) := by unfold schemaFault Hid; rw [hb]
    clear hb hall
    have HF : Hid (((ks.length : Int) = 0 ∧ schemaFault ks = (1, -1)) ∨ (¬ (ks.length : Int) = 0 ∧ (6 : Int) < (ks.length : Int) ∧ schemaFault ks = (1, -1)) ∨ (¬ (ks.length : Int) = 0 ∧ ¬ (6 : Int) < (ks.length : Int) ∧ schemaFault ks = (0, 0))) := by
      unfold Hid
      by_cases h1 : ks.length = 0
      · left; exact ⟨by omega, by rw [HA.out, if_pos (by omega)]⟩
      · right
        by_cases h2 : 6 < ks.length
        · left; exact ⟨by omega, by omega, by rw [HA.out, if_pos (by omega)]⟩
        · right; exact ⟨by omega, by omega, by rw [HA.out, if_neg (by omega)]⟩
    go_enter Tryd.func37, Tryd.ntmps37
    go_wp2_with fail
    go_loop [4] (fun x => ∃ k : Nat, k ≤ ks.length ∧ x = .int .i64 k) (fun x => ks.length - (intOf x).toNat)
    case atStart => exact ⟨0, Nat.zero_le _, rfl⟩
    case round =>
      obtain ⟨k, hk, rfl⟩ := hrel
      by_cases hlt : k < ks.length
      · rcases HK.out with h0 | ⟨g, zo, rfl, hin⟩
        · rw [h0] at hlt; simp at hlt
        have d1 := hin k hlt
        obtain ⟨a1, a2⟩ := ITY.out _ (HALL.out _ (List.getElem_mem hlt))
        have hk1 : (k : Int) < (ks.length : Int) := by omega
        clear hin
        go_wp2
        go_round
        case rel => exact ⟨k + 1, by omega, by go_num⟩
        case measure => simp [intOf]; omega
      · have hk1 : ¬ (k : Int) < (ks.length : Int) := by omega
        rcases HF.out with ⟨h1, h2⟩ | ⟨h1, h3, h2⟩ | ⟨h1, h3, h2⟩
        · have h1' : ((ks.length : Int) == 0) = true := by simpa using h1
          have H2 : Hid (schemaFault ks = (1, -1)) := h2
          clear h1 h2
          go_wp2
          go_ret2
          exact ⟨by rw [H2.out]; rfl, rfl⟩
        · have h1' : ((ks.length : Int) == 0) = false := by simpa using h1
          have H2 : Hid (schemaFault ks = (1, -1)) := h2
          clear h1 h2
          go_wp2
          go_ret2
          exact ⟨by rw [H2.out]; rfl, rfl⟩
        · have h1' : ((ks.length : Int) == 0) = false := by simpa using h1
          have H2 : Hid (schemaFault ks = (0, 0)) := h2
          clear h1 h2
          go_wp2
          go_ret2
          exact ⟨by rw [H2.out]; rfl, rfl⟩

set_option maxHeartbeats 400000 in
theorem refFits_any (k n : Int) (s : ByteArray) (w : World) (hk : isTypeB k = true) :
    Calls Tryd.prog 53 #[.int .i64 k, .agg #[.int .i64 n, .string s]] w fun e w' => e = .returned (.bool (fitsB k n s)) ∧ w' = w.alloc (.cells #[.int .i64 n, .string s] 30) := by
  have h4 : k = 1 ∨ k = 2 ∨ k = 3 ∨ k = 4 := by unfold isTypeB at hk; simp at hk; omega
  clear hk
  rcases h4 with rfl | rfl | rfl | rfl
  all_goals
    go_enter Tryd.func53, Tryd.ntmps53
    go_wp2
    all_goals go_ret
    all_goals refine ⟨ret_bool ?_, by first | rfl | simp_all⟩
    all_goals unfold fitsB
    all_goals simp_all
    all_goals omega

end Go.Proofs.YtcconhgbefhdeaaDoor
