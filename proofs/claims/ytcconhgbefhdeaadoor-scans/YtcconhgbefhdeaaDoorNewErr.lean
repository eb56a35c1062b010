import Derived.Test.YtcconhgbefhdeaaDoorFault2
namespace Go.Proofs.YtcconhgbefhdeaaDoor
open Go.RowKit

/-- The first place from k on where a type is none. -/
def badKind : List Int → Nat → Option Nat
  | [], _ => none
  | x :: r, k => if isTypeB x then badKind r (k + 1) else some k

/-- P3. -/
def schemaFault (ks : List Int) : Int × Int :=
  match badKind ks 0 with
  | some i => (1, i)
  | none => if ks.length < 1 ∨ 6 < ks.length then (1, -1) else (0, 0)

theorem badKind_shift (r : List Int) (j k : Nat) : badKind r (j + k) = (badKind r j).map (· + k) := by
  induction r generalizing j with
  | nil => rfl
  | cons x r ih =>
    unfold badKind
    split
    · rw [show j + k + 1 = j + 1 + k by omega]; exact ih _
    · rfl

theorem badKind_at (ks : List Int) (i : Nat) (h : badKind ks 0 = some i) : ∃ hi : i < ks.length, isTypeB ks[i] = false ∧ ∀ j (hj : j < i), isTypeB (ks[j]'(by omega)) = true := by
  induction ks generalizing i with
  | nil => simp [badKind] at h
  | cons x r ih =>
    unfold badKind at h
    cases hx : isTypeB x
    · rw [hx] at h
      simp at h
      subst h
      exact ⟨by simp, by simpa using hx, fun j hj => by omega⟩
    · rw [hx] at h
      simp only [if_true] at h
      rw [show (0 : Nat) + 1 = 0 + 1 by rfl, badKind_shift] at h
      obtain ⟨m, hm, rfl⟩ := Option.map_eq_some_iff.1 h
      obtain ⟨h1, h2, h3⟩ := ih m hm
      refine ⟨by simp; omega, by simpa using h2, fun j hj => ?_⟩
      cases j with
      | zero => simpa using hx
      | succ j => simpa using h3 j (by omega)

theorem badKind_none (ks : List Int) (k : Nat) (h : badKind ks k = none) : ∀ x ∈ ks, isTypeB x = true := by
  induction ks generalizing k with
  | nil => simp
  | cons x r ih =>
    unfold badKind at h
    cases hx : isTypeB x
    · rw [hx] at h; simp at h
    · rw [hx] at h
      intro y hy
      rcases List.mem_cons.1 hy with rfl | hy
      · exact hx
      · exact ih _ (by simpa using h) y hy

def KindsAt (w : World) (sa : Option Addr) (ks : List Int) : Prop := ks = [] ∨ ∃ g, sa = some ⟨g, 0, none⟩ ∧ KindsIn w g ks

set_option maxHeartbeats 400000 in
theorem storeNew_bad (sa : Option Addr) (cap : Nat) (ks : List Int) (w : World) (hks : KindsAt w sa ks) (hl : ks.length ≤ 9000000) (hf : (schemaFault ks).1 ≠ 0) :
    Calls Tryd.prog 43 #[.slice sa ks.length cap] w fun e w' => ∃ eb, e = .returned (.tuple #[.pointer none, .iface 150 (.pointer (some ⟨eb, 0, none⟩))]) ∧ InnerErr w' (.iface 150 (.pointer (some ⟨eb, 0, none⟩))) 1 (schemaFault ks).2 ∧ Below w.heap.size w w' := by
  have HK : Hid (KindsAt w sa ks) := hks
  clear hks
  cases hb : badKind ks 0 with
  | some i =>
    obtain ⟨hi, hbad, hgood⟩ := badKind_at ks i hb
    have HA : Hid ((schemaFault ks).2 = (i : Int)) := by unfold schemaFault Hid; rw [hb]
    have HG : Hid (∀ j (hj : j < i), isTypeB (ks[j]'(by omega)) = true) := hgood
    rcases HK.out with h0 | ⟨g, rfl, hin⟩
    · rw [h0] at hi; simp at hi
    have HIN : Hid (KindsIn w g ks) := hin
    clear hb hin hf hgood
    rw [HA.out]
    go_enter Tryd.func43, Tryd.ntmps43
    go_wp2_with fail
    go_loop [8] (fun x => ∃ k : Nat, k ≤ i ∧ x = .int .i64 k) (fun x => ks.length - (intOf x).toNat)
    case atStart => exact ⟨0, Nat.zero_le _, rfl⟩
    case round =>
      obtain ⟨k, hk, rfl⟩ := hrel
      have hlt : k < ks.length := by omega
      have d1 := HIN.out k hlt
      by_cases hki : k < i
      · have hty : isTypeB ks[k] = true := HG.out k hki
        go_wp2_with (go_at_call 62; refine (isType_any _ _).mono ?_; rintro e w' ⟨rfl, rfl⟩)
        go_round
        case rel => exact ⟨k + 1, by omega, by go_num⟩
        case measure => simp [intOf]; omega
      · have hke : k = i := by omega
        subst hke
        go_wp2_with (first | (go_at_call 62; refine (isType_any _ _).mono ?_; rintro e w' ⟨rfl, rfl⟩) | (go_at_call 63; refine (refuse_any _ _ _ _).mono ?_; rintro e w1 ⟨eb, rfl, hin1, hb1⟩))
        go_ret2
        exact ⟨eb, rfl, hin1, hb1⟩
  | none =>
    have hall := badKind_none ks 0 hb
    have hlen : ks.length < 1 ∨ 6 < ks.length := by
      refine Decidable.byContradiction fun h => hf ?_
      unfold schemaFault; rw [hb]; simp only; rw [if_neg h]
    have HA : Hid ((schemaFault ks).2 = -1) := by unfold schemaFault Hid; rw [hb]; simp only; rw [if_pos hlen]
    have HALL : Hid (∀ x ∈ ks, isTypeB x = true) := hall
    have t1 : (ks.length : Int) < 1 ∨ (¬ (ks.length : Int) < 1 ∧ (6 : Int) < (ks.length : Int)) := by omega
    clear hb hf hall hlen
    rw [HA.out]
    go_enter Tryd.func43, Tryd.ntmps43
    go_wp2_with fail
    go_loop [8] (fun x => ∃ k : Nat, k ≤ ks.length ∧ x = .int .i64 k) (fun x => ks.length - (intOf x).toNat)
    case atStart => exact ⟨0, Nat.zero_le _, rfl⟩
    case round =>
      obtain ⟨k, hk, rfl⟩ := hrel
      by_cases hlt : k < ks.length
      · rcases HK.out with h0 | ⟨g, rfl, hin⟩
        · rw [h0] at hlt; simp at hlt
        have d1 := hin k hlt
        have hty : isTypeB ks[k] = true := HALL.out _ (List.getElem_mem hlt)
        clear hin t1
        go_wp2_with (go_at_call 62; refine (isType_any _ _).mono ?_; rintro e w' ⟨rfl, rfl⟩)
        go_round
        case rel => exact ⟨k + 1, by omega, by go_num⟩
        case measure => simp [intOf]; omega
      · rcases t1 with t1 | ⟨t1, t2⟩
        all_goals
          go_wp2_with (first | (go_at_call 63; refine (refuse_any _ _ _ _).mono ?_; rintro e w1 ⟨eb, rfl, hin1, hb1⟩))
          go_ret2
          exact ⟨eb, rfl, hin1, hb1⟩

set_option maxHeartbeats 400000 in
theorem new_bad (sa : Option Addr) (cap : Nat) (ks : List Int) (w : World) (hg : ErrType w) (hks : KindsAt w sa ks) (hl : ks.length ≤ 9000000) (hf : (schemaFault ks).1 ≠ 0) :
    Calls Tryd.prog 24 #[.slice sa ks.length cap] w fun e w' => ∃ fb, e = .returned (.tuple #[.pointer none, .iface 100 (.pointer (some ⟨fb, 0, none⟩))]) ∧ FaultAt w' (.iface 100 (.pointer (some ⟨fb, 0, none⟩))) 1 (schemaFault ks).2 ∧ Below w.heap.size w w' := by
  go_enter Tryd.func24, Tryd.ntmps24
  go_wp2_with fail
  refine (storeNew_bad sa cap ks w hks hl hf).mono ?_
  rintro e w1 ⟨eb, rfl, hin, hb⟩
  go_wp2_with fail
  refine (faultIn_err _ _ _ _ (hg.below hb) hin).mono ?_
  rintro e w2 ⟨fb, rfl, hfa, hb2⟩
  go_wp2
  go_ret2
  exact ⟨fb, rfl, hfa, hb.trans (hb2.mono hb.size)⟩

end Go.Proofs.YtcconhgbefhdeaaDoor
