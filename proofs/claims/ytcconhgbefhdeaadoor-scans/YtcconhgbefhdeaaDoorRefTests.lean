import Derived.Test.YtcconhgbefhdeaaDoorRefSay2
import Derived.Test.YtcconhgbefhdeaaDoorSieveErr
namespace Go.Proofs.YtcconhgbefhdeaaDoor
open Go.RowKit
attribute [local go_sem ↓] Go.wp_at_zero Go.wp_at_succ

theorem firstBad_is (p : Nat → Bool) (n i : Nat) (hi : i < n) (hb : p i = false) (hg : ∀ j, j < i → p j = true) : firstBad p n = some i := by
  cases h : firstBad p n with
  | none => have := firstBad_none p n h i hi; rw [hb] at this; simp at this
  | some j =>
    obtain ⟨h1, h2, h3⟩ := firstBad_some p n j h
    rcases Nat.lt_trichotomy i j with x | x | x
    · have := h3 i x; rw [hb] at this; simp at this
    · rw [x]
    · have := hg j x; rw [h2] at this; simp at this

theorem firstBad_all (p : Nat → Bool) (n : Nat) (hg : ∀ j, j < n → p j = true) : firstBad p n = none := by
  cases h : firstBad p n with
  | none => rfl
  | some j =>
    obtain ⟨h1, h2, h3⟩ := firstBad_some p n j h
    have := hg j h1; rw [h2] at this; simp at this

/-- What a test may be, in the order of the document's answer. -/
theorem okTB_cases (ks : List Int) (t : Tst) (a : Int) :
    (okTB ks t a = false ∧ (t.dO < 1 ∨ (¬ t.dO < 1 ∧ 9 < t.dO)))
    ∨ (okTB ks t a = false ∧ ¬ t.dO < 1 ∧ ¬ 9 < t.dO ∧ t.dO < 7 ∧ (t.col < 0 ∨ (¬ t.col < 0 ∧ (ks.length : Int) ≤ t.col)))
    ∨ (¬ t.dO < 1 ∧ ¬ 9 < t.dO ∧ t.dO < 7 ∧ ∃ c : Nat, t.col = c ∧ ∃ h : c < ks.length, fitsB ks[c] t.n t.s = okTB ks t a)
    ∨ (t.dO = 9 ∧ okTB ks t a = decide (1 ≤ a))
    ∨ ((t.dO = 7 ∨ t.dO = 8) ∧ okTB ks t a = decide (2 ≤ a)) := by
  by_cases h1 : t.dO < 1
  · left; exact ⟨by unfold okTB; rw [if_neg (by omega), if_neg (by omega)], .inl h1⟩
  by_cases h9 : 9 < t.dO
  · left; exact ⟨by unfold okTB; rw [if_neg (by omega), if_neg (by omega)], .inr ⟨h1, h9⟩⟩
  by_cases h7 : t.dO < 7
  · by_cases hc : 0 ≤ t.col ∧ t.col < ks.length
    · right; right; left
      have hl : t.col.toNat < ks.length := by omega
      refine ⟨h1, h9, h7, t.col.toNat, by omega, hl, ?_⟩
      unfold okTB
      rw [if_pos (by omega), decide_eq_true hc, Bool.true_and]
      simp [List.getD, hl]
    · right; left
      exact ⟨by unfold okTB; rw [if_pos (by omega), decide_eq_false hc]; rfl, h1, h9, h7, by omega⟩
  · by_cases h : t.dO = 9
    · right; right; right; left
      exact ⟨h, by unfold okTB takesI; rw [if_neg (by omega), if_pos (by omega), if_neg (by omega), if_pos h]⟩
    · right; right; right; right
      exact ⟨by omega, by unfold okTB takesI; rw [if_neg (by omega), if_pos (by omega), if_pos (by omega)]⟩

set_option maxRecDepth 100000 in
set_option maxHeartbeats 1000000 in
theorem refTests_in (tb sc scap tcap : Nat) (ta : Option Addr) (ks : List Int) (T : List Tst) (w : World) (hk : 0 < ks.length) (hsch : w.cell? ⟨tb, 0, none⟩ = some (.slice (some ⟨sc, 0, none⟩) ks.length scap)) (hks : KindsIn w sc ks) (hty : ∀ x ∈ ks, isTypeB x = true) (hT : TestsA w ta T) (hl40 : T.length ≤ 40) :
    Calls Tryd.prog 77 #[.pointer (some ⟨tb, 0, none⟩), .slice ta T.length tcap] w fun e w' => e = .returned (.tuple #[.int .i64 (testFault ks T).1, .int .i64 (testFault ks T).2]) ∧ Below w.heap.size w w' := by
  have h40 : ¬ ((40 : Int) < (T.length : Int)) := by omega
  have htb : tb < w.heap.size := World.block_lt_of_cell? w ⟨tb, 0, none⟩ hsch
  have hsc : sc < w.heap.size := hks.lt hk
  have HT : Hid (TestsA w ta T) := hT
  have HKS : Hid (KindsIn w sc ks) := hks
  have HTY : Hid (∀ x ∈ ks, isTypeB x = true) := hty
  have HS : Hid (w.cell? ⟨tb, 0, none⟩ = some (.slice (some ⟨sc, 0, none⟩) ks.length scap)) := hsch
  clear hT hks hty hsch
  go_enter Tryd.func77, Tryd.ntmps77
  go_wp2_with fail
  go_loopw [6, 7] (fun a x wr => ∃ k : Nat, k ≤ T.length ∧ x = .int .i64 k ∧ a = .int .i64 (cntI (T.take k) 0) ∧ (∀ j, j < k → testAt ks T j = true) ∧ Below w.heap.size w wr) (fun _ x _ => T.length - (intOf x).toNat)
  case atStart => exact ⟨0, Nat.zero_le _, rfl, rfl, fun j h => absurd h (by omega), Below.refl _ _⟩
  case round =>
    obtain ⟨k, hk', rfl, rfl, hg, hB⟩ := hrel
    have HG : Hid (∀ j, j < k → testAt ks T j = true) := hg
    clear hg
    by_cases hlt : k < T.length
    · have hz := hB.size
      rcases HT.out with h0 | ⟨tg, tz, rfl, hin⟩
      · rw [h0] at hlt; simp at hlt
      have htg : tg < w.heap.size := hin.lt (by omega)
      obtain ⟨c1, c2, c3, c4⟩ := hin k hlt
      clear hin
      have e : ∀ o, wr.cell? ⟨tg, o, none⟩ = w.cell? ⟨tg, o, none⟩ := fun o => hB.cell (p := ⟨tg, o, none⟩) (by simp; omega)
      rw [← e] at c1 c2 c3 c4
      have d0 : wr.cell? ⟨tb, 0, none⟩ = some (.slice (some ⟨sc, 0, none⟩) ks.length scap) := (hB.cell (p := ⟨tb, 0, none⟩) htb).trans HS.out
      have HK1 : Hid (KindsIn wr sc ks) := HKS.out.keep (hB.block sc (by omega))
      have hbd := cntI_bd (T.take k) 0
      have hl : (T.take k).length ≤ 40 := by simp; omega
      have HC : Hid (cntI (T.take (k + 1)) 0 = cntI (T.take k) 0 + (1 - takesI T[k].dO)) := cntI_succ T k hlt
      have hte : testAt ks T k = okTB ks T[k] (cntI (T.take k) 0) := by unfold testAt; simp [List.getD, hlt]
      have HTE : Hid (testAt ks T k = okTB ks T[k] (cntI (T.take k) 0)) := hte
      have HCS := okTB_cases ks T[k] (cntI (T.take k) 0)
      have HBAD : Hid (okTB ks T[k] (cntI (T.take k) 0) = false → testFault ks T = (3, (k : Int))) := fun h => by
        unfold testFault
        rw [if_neg (by omega), firstBad_is (testAt ks T) T.length k hlt (by rw [HTE.out]; exact h) HG.out]
      have HOK : Hid (okTB ks T[k] (cntI (T.take k) 0) = true → ∀ j, j < k + 1 → testAt ks T j = true) := fun h j hj => by
        by_cases x : j < k
        · exact HG.out j x
        · have : j = k := by omega
          subst this; rw [HTE.out]; exact h
      have hn0 := World.new_ne _ _ d0
      clear e hte
      generalize cntI (T.take k) 0 = a at *
      generalize T[k] = t at *
      rcases HCS with ⟨hb, hd⟩ | ⟨hb, d1, d9, d7, hd⟩ | ⟨d1, d9, d7, c, hc, hcl, hf⟩ | ⟨hd, ha⟩ | ⟨hd, ha⟩
      · have HF := HBAD.out hb
        have HF2 : Hid (testFault ks T = (3, (k : Int))) := HF
        clear hb HF
        rcases hd with h | ⟨h, h'⟩
        all_goals
          go_wp2
          go_ret2
          exact ⟨by rw [HF2.out]; rfl, hB.alloc (by omega) _⟩
      · have HF2 : Hid (testFault ks T = (3, (k : Int))) := HBAD.out hb
        have e9 : (t.dO == 9) = false := by rw [beq_eq_false_iff_ne]; omega
        have e7 : (t.dO == 7) = false := by rw [beq_eq_false_iff_ne]; omega
        have e8 : (t.dO == 8) = false := by rw [beq_eq_false_iff_ne]; omega
        clear hb
        rcases hd with h | ⟨h, h'⟩
        · have hx : decide (t.col < 0) = true := by simpa using h
          go_wp2_with fail
          go_quiet (fail)
          go_wp2
          go_ret2
          exact ⟨by rw [HF2.out]; rfl, (hB.alloc (by omega) _).trans ((drewN_below' _ _).mono (by simp; omega))⟩
        · have hx : decide (t.col < 0) = false := by simpa using h
          have hy : decide ((ks.length : Int) ≤ t.col) = true := by simpa using h'
          have dq : (wr.alloc (.cells #[.int .i64 t.dO, .int .i64 t.col, .int .i64 t.n, .string t.s] 32)).cell? ⟨tb, 0, none⟩ = some (.slice (some ⟨sc, 0, none⟩) ks.length scap) := (cell_alloc _ _ _ _ (by omega)).trans d0
          go_wp2_with fail
          go_quiet (fail)
          go_wp2
          go_ret2
          exact ⟨by rw [HF2.out]; rfl, (hB.alloc (by omega) _).trans ((drewN_below' _ _).mono (by simp; omega))⟩
      · have e9 : (t.dO == 9) = false := by rw [beq_eq_false_iff_ne]; omega
        have e7 : (t.dO == 7) = false := by rw [beq_eq_false_iff_ne]; omega
        have e8 : (t.dO == 8) = false := by rw [beq_eq_false_iff_ne]; omega
        have tk : takesI t.dO = 0 := by unfold takesI; rw [if_neg (by omega), if_neg (by omega)]
        have hkt : isTypeB ks[c] = true := HTY.out _ (List.getElem_mem hcl)
        have k1 := HK1.out c hcl
        generalize ks[c] = kk at k1 hf hkt
        have n1 := World.new_ne _ _ k1
        have x0 : (0 : Int) ≤ (c : Int) := by omega
        have x1 : (c : Int) < (ks.length : Int) := by omega
        have hx : decide (t.col < 0) = false := by rw [hc]; simp
        have hy : decide ((ks.length : Int) ≤ t.col) = false := by rw [hc]; simp; omega
        rw [hc] at hx hy c2
        cases hok : okTB ks t a with
        | true =>
          have HO2 : Hid (∀ j, j < k + 1 → testAt ks T j = true) := HOK.out hok
          rw [hok] at hf
          rw [tk] at HC
          clear hok tk
          have dq : (wr.alloc (.cells #[.int .i64 t.dO, .int .i64 c, .int .i64 t.n, .string t.s] 32)).cell? ⟨tb, 0, none⟩ = some (.slice (some ⟨sc, 0, none⟩) ks.length scap) := (cell_alloc _ _ _ _ (by omega)).trans d0
          go_wp2_with fail
          go_quiet (fail)
          go_wp2_with fail
          go_region_held3 (fun w' => w'.cell? ⟨wr.heap.size, 1, none⟩ = some (.int .i64 c) ∧ w'.cell? ⟨wr.heap.size, 2, none⟩ = some (.int .i64 t.n) ∧ w'.cell? ⟨wr.heap.size, 3, none⟩ = some (.string t.s) ∧ w'.cell? ⟨tb, 0, none⟩ = some (.slice (some ⟨sc, 0, none⟩) ks.length scap) ∧ w'.cell? ⟨sc, c, none⟩ = some (.int .i64 kk)) (go_keep)
            (first | (go_at_call 53; refine (refFits_any _ _ _ _ hkt).mono ?_; rintro e w1 ⟨rfl, rfl⟩))
          go_wp2
          go_roundw
          case rel => exact ⟨k + 1, by omega, by go_num, by rw [HC.out]; go_num, HO2.out, ((hB.alloc (by omega) _).trans ((drewN_below' _ _).mono (by simp; omega))).alloc (by simp; omega) _⟩
          case measure => simp [intOf]; omega
        | false =>
          have HF2 : Hid (testFault ks T = (3, (k : Int))) := HBAD.out hok
          rw [hok] at hf
          clear hok tk
          have dq : (wr.alloc (.cells #[.int .i64 t.dO, .int .i64 c, .int .i64 t.n, .string t.s] 32)).cell? ⟨tb, 0, none⟩ = some (.slice (some ⟨sc, 0, none⟩) ks.length scap) := (cell_alloc _ _ _ _ (by omega)).trans d0
          go_wp2_with fail
          go_quiet (fail)
          go_wp2_with fail
          go_region_held3 (fun w' => w'.cell? ⟨wr.heap.size, 1, none⟩ = some (.int .i64 c) ∧ w'.cell? ⟨wr.heap.size, 2, none⟩ = some (.int .i64 t.n) ∧ w'.cell? ⟨wr.heap.size, 3, none⟩ = some (.string t.s) ∧ w'.cell? ⟨tb, 0, none⟩ = some (.slice (some ⟨sc, 0, none⟩) ks.length scap) ∧ w'.cell? ⟨sc, c, none⟩ = some (.int .i64 kk)) (go_keep)
            (first | (go_at_call 53; refine (refFits_any _ _ _ _ hkt).mono ?_; rintro e w1 ⟨rfl, rfl⟩))
          go_wp2
          go_ret2
          exact ⟨by rw [HF2.out]; rfl, ((hB.alloc (by omega) _).trans ((drewN_below' _ _).mono (by simp; omega))).alloc (by simp; omega) _⟩
      · have e9 : (t.dO == 9) = true := by rw [beq_iff_eq]; exact hd
        have e7 : (t.dO == 7) = false := by rw [beq_eq_false_iff_ne]; omega
        have e8 : (t.dO == 8) = false := by rw [beq_eq_false_iff_ne]; omega
        have tk : takesI t.dO = 1 := by unfold takesI; rw [if_neg (by omega), if_pos hd]
        have x1 : ¬ t.dO < 1 := by omega
        have x2 : ¬ 9 < t.dO := by omega
        have x3 : ¬ t.dO < 7 := by omega
        by_cases h : a < 1
        · have HF2 : Hid (testFault ks T = (3, (k : Int))) := HBAD.out (by rw [ha]; simp; omega)
          clear tk hd ha
          go_wp2
          go_ret2
          exact ⟨by rw [HF2.out]; rfl, hB.alloc (by omega) _⟩
        · have HO2 : Hid (∀ j, j < k + 1 → testAt ks T j = true) := HOK.out (by rw [ha]; simp; omega)
          rw [tk] at HC
          clear tk hd ha
          go_wp2
          go_roundw
          case rel => exact ⟨k + 1, by omega, by go_num, by rw [HC.out]; go_num, HO2.out, hB.alloc (by omega) _⟩
          case measure => simp [intOf]; omega
      · have e9 : (t.dO == 9) = false := by rw [beq_eq_false_iff_ne]; omega
        have tk : takesI t.dO = 2 := by unfold takesI; rw [if_pos hd]
        have x1 : ¬ t.dO < 1 := by omega
        have x2 : ¬ 9 < t.dO := by omega
        have x3 : ¬ t.dO < 7 := by omega
        have e78 : (t.dO == 7) = true ∨ ((t.dO == 7) = false ∧ (t.dO == 8) = true) := by
          rcases hd with h | h <;> rw [h] <;> simp
        by_cases h : a < 2
        · have HF2 : Hid (testFault ks T = (3, (k : Int))) := HBAD.out (by rw [ha]; simp; omega)
          clear tk hd ha
          rcases e78 with e7 | ⟨e7, e8⟩
          all_goals
            go_wp2
            go_ret2
            exact ⟨by rw [HF2.out]; rfl, hB.alloc (by omega) _⟩
        · have HO2 : Hid (∀ j, j < k + 1 → testAt ks T j = true) := HOK.out (by rw [ha]; simp; omega)
          rw [tk] at HC
          clear tk hd ha
          rcases e78 with e7 | ⟨e7, e8⟩
          all_goals
            go_wp2
            go_roundw
            case rel => exact ⟨k + 1, by omega, by go_num, by rw [HC.out]; go_num, HO2.out, hB.alloc (by omega) _⟩
            case measure => simp [intOf]; omega
    · have hke : k = T.length := by omega
      have hfa : testFault ks T = if 0 < T.length ∧ cntI T 0 ≠ 1 then (3, (T.length : Int)) else (0, 0) := by
        unfold testFault
        rw [if_neg (by omega), firstBad_all (testAt ks T) T.length (fun j hj => HG.out j (by omega))]
      have hct : T.take k = T := List.take_of_length_le (by omega)
      rw [hct]
      have hnk : ¬ (k : Int) < (T.length : Int) := by omega
      by_cases hp0 : T.length = 0
      · have HF2 : Hid (testFault ks T = (0, 0)) := by unfold Hid; rw [hfa, if_neg (by omega)]
        have hnp : ¬ (0 : Int) < (T.length : Int) := by omega
        clear hfa hct hp0
        go_wp2
        go_ret2
        exact ⟨by rw [HF2.out]; rfl, hB⟩
      have hpos : (0 : Int) < (T.length : Int) := by omega
      by_cases h1 : cntI T 0 = 1
      · have HF2 : Hid (testFault ks T = (0, 0)) := by unfold Hid; rw [hfa, if_neg (by omega)]
        clear hfa hct
        have e1 : (cntI T 0 != 1) = false := by rw [h1]; rfl
        clear h1
        go_wp2
        go_ret2
        exact ⟨by rw [HF2.out]; rfl, hB⟩
      · have HF2 : Hid (testFault ks T = (3, (T.length : Int))) := by unfold Hid; rw [hfa, if_pos ⟨by omega, h1⟩]
        clear hfa hct
        have e1 : (cntI T 0 != 1) = true := by rw [bne_iff_ne]; exact h1
        clear h1
        go_wp2
        go_ret2
        exact ⟨by rw [HF2.out]; rfl, hB⟩

set_option maxHeartbeats 1000000 in
theorem refTests_any (tb sc scap tcap : Nat) (ta : Option Addr) (ks : List Int) (T : List Tst) (w : World) (hk : 0 < ks.length) (hsch : w.cell? ⟨tb, 0, none⟩ = some (.slice (some ⟨sc, 0, none⟩) ks.length scap)) (hks : KindsIn w sc ks) (hty : ∀ x ∈ ks, isTypeB x = true) (hT : TestsA w ta T) :
    Calls Tryd.prog 77 #[.pointer (some ⟨tb, 0, none⟩), .slice ta T.length tcap] w fun e w' => e = .returned (.tuple #[.int .i64 (testFault ks T).1, .int .i64 (testFault ks T).2]) ∧ Below w.heap.size w w' := by
  by_cases h40 : 40 < T.length
  · have HF : Hid (testFault ks T = (3, -1)) := by unfold Hid testFault; rw [if_pos h40]
    have h40' : (40 : Int) < (T.length : Int) := by omega
    go_enter Tryd.func77, Tryd.ntmps77
    go_wp2
    go_ret2
    exact ⟨by rw [HF.out]; rfl, Below.refl _ _⟩
  · exact refTests_in tb sc scap tcap ta ks T w hk hsch hks hty hT (by omega)

end Go.Proofs.YtcconhgbefhdeaaDoor
