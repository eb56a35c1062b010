import Derived.Test.YtcconhgbefhdeaaDoorTable
namespace Go.Proofs.YtcconhgbefhdeaaDoor
open Go.RowKit

set_option maxHeartbeats 400000 in
theorem storeNew_ok (g cap : Nat) (ks : List Int) (w : World) (hks : KindsIn w g ks) (h1 : 1 ≤ ks.length) (h6 : ks.length ≤ 6) (ht : ∀ k ∈ ks, isTypeB k = true) :
    Calls Tryd.prog 43 #[.slice (some ⟨g, 0, none⟩) ks.length cap] w fun e w' => ∃ bs sv, e = .returned (.tuple #[.pointer (some ⟨bs, 0, none⟩), .nilIface]) ∧
      StoreAt w' w.heap.size bs ks [] sv (.slice none 0 0) ∧ Below w.heap.size w w' := by
  have t1 : ¬ ((ks.length : Int) < 1) := by omega
  have t2 : ¬ ((6 : Int) < (ks.length : Int)) := by omega
  go_enter Tryd.func43, Tryd.ntmps43
  go_wp2_with fail
  go_loop [8] (fun i => ∃ k : Nat, k ≤ ks.length ∧ i = .int .i64 k) (fun i => ks.length - (intOf i).toNat)
  case atStart => exact ⟨0, Nat.zero_le _, rfl⟩
  case round =>
    obtain ⟨k, hk, rfl⟩ := hrel
    by_cases hlt : k < ks.length
    · have d1 := hks k hlt
      have hty : isTypeB ks[k] = true := ht _ (List.getElem_mem hlt)
      go_wp2_with (go_at_call 62; refine (isType_any _ _).mono ?_; rintro e w' ⟨rfl, rfl⟩)
      go_round
      case rel => exact ⟨k + 1, by omega, by go_num⟩
      case measure => simp [intOf]; omega
    · go_wp2_with fail
      refine (Tryd.slices_Clone_int g 0 ks.length cap ks w (Nat.le_refl _) (by omega) (fun j hj => by rw [Nat.zero_add, hks j hj]; simp [List.getD, hj])).mono ?_
      rintro e w1 ⟨v', rfl, hown, _, hb⟩
      rw [List.take_length] at hown
      obtain ⟨g', cap', rfl, _, _⟩ := hown.form (by omega)
      go_wp2
      go_ret2
      refine ⟨w1.heap.size, .slice (some ⟨g', 0, none⟩) ks.length cap', rfl, ?_, hb.alloc hb.size _⟩
      refine ⟨heap_alloc_new w1 _, hb.size, hown.alloc _, ⟨World.ownsRow_nil _ _ _ _, by simp⟩⟩

set_option maxHeartbeats 400000 in
theorem new_ok (g cap : Nat) (ks : List Int) (w : World) (hks : KindsIn w g ks) (h1 : 1 ≤ ks.length) (h6 : ks.length ≤ 6) (ht : ∀ k ∈ ks, isTypeB k = true) :
    Calls Tryd.prog 24 #[.slice (some ⟨g, 0, none⟩) ks.length cap] w fun e w' => ∃ bt bs sv, e = .returned (.tuple #[.pointer (some ⟨bt, 0, none⟩), .nilIface]) ∧
      TableAt w' w.heap.size bt bs ks [] sv (.slice none 0 0) ∧ Below w.heap.size w w' := by
  go_enter Tryd.func24, Tryd.ntmps24
  go_wp2_with fail
  refine (storeNew_ok g cap ks w hks h1 h6 ht).mono ?_
  rintro e w1 ⟨bs, sv, rfl, hst, hb⟩
  go_wp2
  go_ret2
  exact ⟨w1.heap.size, bs, sv, rfl, ⟨heap_alloc_new w1 _, hb.size, hst.below ((Below.refl _ _).alloc (Nat.le_refl _) _)⟩, hb.alloc hb.size _⟩

end Go.Proofs.YtcconhgbefhdeaaDoor
