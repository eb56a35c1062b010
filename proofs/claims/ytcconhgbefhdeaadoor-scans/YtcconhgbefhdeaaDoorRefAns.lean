import Derived.Test.YtcconhgbefhdeaaDoorRefTests
namespace Go.Proofs.YtcconhgbefhdeaaDoor
open Go.RowKit
attribute [local go_sem ↓] Go.wp_at_zero Go.wp_at_succ

/-- The numbers of a row, of tests, are numbers of 64 bits. -/
def RowRg (r : List (Int × ByteArray)) : Prop := ∀ i (h : i < r.length), -9223372036854775808 ≤ r[i].1 ∧ r[i].1 ≤ 9223372036854775807
def TstRg (T : List Tst) : Prop := ∀ i (h : i < T.length), -9223372036854775808 ≤ T[i].n ∧ T[i].n ≤ 9223372036854775807

theorem fitsB_size (k n : Int) (s : ByteArray) (h : fitsB k n s = true) : s.size ≤ 9000000 := by
  have he : s.toList.isEmpty = true → s.size ≤ 9000000 := fun h => by
    rw [ByteArray.toList_eq] at h
    have : s.data.size = 0 := by
      have h' := List.isEmpty_iff.1 h
      have := congrArg List.length h'
      simpa using this
    have hs : s.size = s.data.size := rfl
    omega
  unfold fitsB at h
  split at h
  · exact he h
  · split at h
    · simp at h; omega
    · split at h
      · simp at h; exact he (by simpa using h.1)
      · simp at h

/-- The document's answer up to an index: the answer, and where the tests ahead of it end. -/
def AnsAt (ks : List Int) (r : List (Int × ByteArray)) (T : List Tst) (i : Nat) (w : World) (e : Ending) (w' : World) : Prop :=
  ∃ (b : Bool) (j : Nat), j ≤ i ∧ e = .returned (.tuple #[.bool b, .int .i64 ((j : Int) - 1)]) ∧ runR ks r (T.take (i + 1)) [] = b :: runR ks r (T.take j) [] ∧ Below w.heap.size w w'

structure RefIn (w : World) (tb sc scap tg tz g : Nat) (ks : List Int) (T : List Tst) (r : List (Int × ByteArray)) : Prop where
  sch : w.cell? ⟨tb, 0, none⟩ = some (.slice (some ⟨sc, 0, none⟩) ks.length scap)
  kinds : KindsIn w sc ks
  tests : TestsO w tg tz T
  row : RowIn w g r

theorem RefIn.keep {w w' : World} {tb sc scap tg tz g : Nat} {ks : List Int} {T : List Tst} {r : List (Int × ByteArray)} (h : RefIn w tb sc scap tg tz g ks T r) (hb : Below w.heap.size w w') : RefIn w' tb sc scap tg tz g ks T r := by
  have e : ∀ b o v, w.cell? ⟨b, o, none⟩ = some v → w'.cell? ⟨b, o, none⟩ = some v := fun b o v hv => (hb.cell (p := ⟨b, o, none⟩) (World.block_lt_of_cell? w ⟨b, o, none⟩ hv)).trans hv
  exact ⟨e _ _ _ h.sch, fun i hi => e _ _ _ (h.kinds i hi), fun i hi => ⟨e _ _ _ (h.tests i hi).1, e _ _ _ (h.tests i hi).2.1, e _ _ _ (h.tests i hi).2.2.1, e _ _ _ (h.tests i hi).2.2.2⟩, fun i hi => ⟨e _ _ _ (h.row i hi).1, e _ _ _ (h.row i hi).2⟩⟩

set_option maxRecDepth 100000 in
set_option maxHeartbeats 1000000 in
theorem refAnswer_cmp (tb sc scap tcap tg tz g rcap : Nat) (ks : List Int) (T : List Tst) (r : List (Int × ByteArray)) (i : Nat) (hi : i < T.length) (hl40 : T.length ≤ 40) (c : Nat) (hc : T[i].col = c) (hcl : c < ks.length) (hcr : c < r.length) (d1 : 1 ≤ T[i].dO) (d6 : T[i].dO ≤ 6) (w : World) (h : RefIn w tb sc scap tg tz g ks T r) (hrg : RowRg r) (htg : TstRg T) (hsz : r[c].2.size ≤ 9000000) :
    Calls Tryd.prog 88 #[.pointer (some ⟨tb, 0, none⟩), .slice (some ⟨tg, tz, none⟩) T.length tcap, .int .i64 i, .slice (some ⟨g, 0, none⟩) r.length rcap] w (AnsAt ks r T i w) := by
  obtain ⟨a1, a2⟩ := hrg c hcr
  obtain ⟨b1, b2⟩ := htg i hi
  have k1 := h.kinds c hcl
  obtain ⟨r1, r2⟩ := h.row c hcr
  obtain ⟨t1, t2, t3, t4⟩ := h.tests i hi
  have s1 := h.sch
  have HR : Hid (runR ks r (T.take (i + 1)) [] = holdsB ks[c] T[i].dO r[c].1 r[c].2 T[i].n T[i].s :: runR ks r (T.take i) []) := by
    unfold Hid
    rw [runR_succ ks r T i hi]
    unfold stepR
    rw [if_neg (by omega), if_neg (by omega), if_neg (by omega), hc]
    simp [List.getD, hcl, hcr]
  have hsc : sc < w.heap.size := World.block_lt_of_cell? w ⟨sc, c, none⟩ k1
  have hg : g < w.heap.size := World.block_lt_of_cell? w ⟨g, c * 2, none⟩ r1
  have htb : tb < w.heap.size := World.block_lt_of_cell? w ⟨tb, 0, none⟩ s1
  rw [hc] at t2
  have c1 : (0 : Int) ≤ (c : Int) := by omega
  have c2 : (c : Int) < (ks.length : Int) := by omega
  have c3 : (c : Int) < (r.length : Int) := by omega
  have i0 : (0 : Int) ≤ (i : Int) := by omega
  have i1 : (i : Int) < (T.length : Int) := by omega
  have i2 : (T.length : Int) ≤ 40 := by omega
  clear h hrg htg hc
  generalize T[i] = t at *
  generalize ks[c] = kk at *
  generalize r[c].1 = rn at *
  generalize r[c].2 = rs at *
  have d7 : t.dO < 7 := by omega
  have n1 := World.new_ne _ _ k1
  have n2 := World.new_ne _ _ r1
  have n3 := World.new_ne _ _ s1
  generalize hkl : ks.length = kl at *
  generalize hrl : r.length = rl at *
  generalize htl : T.length = tl at *
  go_enter Tryd.func88, Tryd.ntmps88
  go_wp2_with fail
  go_region_held3 (fun w' => w'.cell? ⟨w.heap.size, 0, none⟩ = some (.int .i64 t.dO) ∧ w'.cell? ⟨w.heap.size, 1, none⟩ = some (.int .i64 c) ∧ w'.cell? ⟨w.heap.size, 2, none⟩ = some (.int .i64 t.n) ∧ w'.cell? ⟨w.heap.size, 3, none⟩ = some (.string t.s) ∧ w'.cell? ⟨tb, 0, none⟩ = some (.slice (some ⟨sc, 0, none⟩) kl scap) ∧ w'.cell? ⟨sc, c, none⟩ = some (.int .i64 kk) ∧ w'.cell? ⟨g, c * 2, none⟩ = some (.int .i64 rn) ∧ w'.cell? ⟨g, c * 2 + 1, none⟩ = some (.string rs))
    (simp [*, World.cell?_alloc_some])
    (first
      | (go_at_call 96; refine (refSays_holds _ _ _ _ _ _ _ a1 a2 b1 b2 hsz d1 d6).mono ?_; rintro e w1 ⟨rfl, hb1⟩
         obtain ⟨hc1, hf1⟩ := bcell hb1
         have p0 : w1.cell? ⟨w.heap.size, 0, none⟩ = some (.int .i64 t.dO) := (hc1 _ _ (by simp)).trans (by simp)
         have p1 : w1.cell? ⟨w.heap.size, 1, none⟩ = some (.int .i64 c) := (hc1 _ _ (by simp)).trans (by simp)
         have p2 : w1.cell? ⟨w.heap.size, 2, none⟩ = some (.int .i64 t.n) := (hc1 _ _ (by simp)).trans (by simp)
         have p3 : w1.cell? ⟨w.heap.size, 3, none⟩ = some (.string t.s) := (hc1 _ _ (by simp)).trans (by simp)
         have p4 : w1.cell? ⟨tb, 0, none⟩ = some (.slice (some ⟨sc, 0, none⟩) kl scap) := (hc1 _ _ (by simp; omega)).trans ((cell_alloc _ _ tb _ htb).trans s1)
         have p5 : w1.cell? ⟨sc, c, none⟩ = some (.int .i64 kk) := (hc1 _ _ (by simp; omega)).trans ((cell_alloc _ _ sc c hsc).trans k1)
         have p6 : w1.cell? ⟨g, c * 2, none⟩ = some (.int .i64 rn) := (hc1 _ _ (by simp; omega)).trans ((cell_alloc _ _ g _ hg).trans r1)
         have p7 : w1.cell? ⟨g, c * 2 + 1, none⟩ = some (.string rs) := (hc1 _ _ (by simp; omega)).trans ((cell_alloc _ _ g _ hg).trans r2)))
  have BB : Below w.heap.size w w1 := (((Below.refl w.heap.size w).alloc (Nat.le_refl _) _).drew).trans (hb1.mono (show w.heap.size ≤ _ by simp))
  go_wp2
  go_ret2
  exact ⟨_, i, Nat.le_refl _, rfl, HR.out, BB⟩

theorem runR_zero (ks : List Int) (r : List (Int × ByteArray)) (T : List Tst) : runR ks r (T.take 0) [] = [] := by simp [runR]

set_option maxRecDepth 100000 in
set_option maxHeartbeats 1000000 in
theorem refAnswer_any (tb sc scap tcap tg tz g rcap : Nat) (ks : List Int) (T : List Tst) (r : List (Int × ByteArray)) (hl40 : T.length ≤ 40) (hv : ∀ i (h : i < T.length), okT ks T[i] (cntI (T.take i) 0)) (hfit : FitsRow ks r) (hrg : RowRg r) (htg : TstRg T) (i : Nat) :
    ∀ (_ : i < T.length) (w : World), RefIn w tb sc scap tg tz g ks T r → Calls Tryd.prog 88 #[.pointer (some ⟨tb, 0, none⟩), .slice (some ⟨tg, tz, none⟩) T.length tcap, .int .i64 i, .slice (some ⟨g, 0, none⟩) r.length rcap] w (AnsAt ks r T i w) := by
  induction i using Nat.strongRecOn with
  | _ i ih =>
  intro hi w h
  have hlen := runR_length ks r T hv i (by omega)
  rcases hv i hi with ⟨hd, c, hc, hcl, hf⟩ | ⟨hd, ha⟩
  · have hcr : c < r.length := by rw [hfit.1]; exact hcl
    exact refAnswer_cmp tb sc scap tcap tg tz g rcap ks T r i hi hl40 c hc hcl hcr (by omega) (by omega) w h hrg htg (fitsB_size _ _ _ (hfit.2 c hcl hcr))
  · have hi1 : 1 ≤ i := by
      rcases Nat.eq_zero_or_pos i with h0 | h0
      · subst h0
        rw [runR_zero] at hlen
        rcases hd with hd | hd | hd <;> rw [hd] at ha <;> simp [takesI] at ha <;> simp at hlen <;> omega
      · exact h0
    have IH1 := ih (i - 1) (by omega) (by omega)
    rw [show ((i - 1 : Nat) : Int) = (i : Int) - 1 by omega] at IH1
    have IHJ : Hid (∀ j : Nat, 1 ≤ j → j ≤ i → ∀ w : World, RefIn w tb sc scap tg tz g ks T r → Calls Tryd.prog 88 #[.pointer (some ⟨tb, 0, none⟩), .slice (some ⟨tg, tz, none⟩) T.length tcap, .int .i64 ((j : Int) - 1), .slice (some ⟨g, 0, none⟩) r.length rcap] w (AnsAt ks r T (j - 1) w)) := fun j h1 h2 w' h' => by
      have := ih (j - 1) (by omega) (by omega) w' h'
      rwa [show ((j - 1 : Nat) : Int) = (j : Int) - 1 by omega] at this
    have HI1 : Hid (∀ (w : World), RefIn w tb sc scap tg tz g ks T r → Calls Tryd.prog 88 #[.pointer (some ⟨tb, 0, none⟩), .slice (some ⟨tg, tz, none⟩) T.length tcap, .int .i64 ((i : Int) - 1), .slice (some ⟨g, 0, none⟩) r.length rcap] w (AnsAt ks r T (i - 1) w)) := IH1
    have HH : Hid (RefIn w tb sc scap tg tz g ks T r) := h
    have HV : Hid (∀ rs : List Bool, runR ks r (T.take i) [] = rs → runR ks r (T.take (i + 1)) [] = stepR ks r T[i] rs) := fun rs hrs => by rw [runR_succ ks r T i hi, hrs]
    have HL : Hid (((runR ks r (T.take i) []).length : Int) = cntI (T.take i) 0) := hlen
    have HA : Hid (takesI T[i].dO ≤ cntI (T.take i) 0) := ha
    have HD : Hid (T[i].dO = 7 ∨ T[i].dO = 8 ∨ T[i].dO = 9) := hd
    obtain ⟨t1, t2, t3, t4⟩ := h.tests i hi
    clear ih hv hfit hrg htg IH1 h hlen ha
    have i0 : (0 : Int) ≤ (i : Int) := by omega
    have i1 : (i : Int) < (T.length : Int) := by omega
    have i2 : (T.length : Int) ≤ 40 := by omega
    have d7 : ¬ T[i].dO < 7 := by omega
    generalize T[i] = t at *
    generalize htl : T.length = tl at *
    generalize hrl : r.length = rl at *
    by_cases h9 : t.dO = 9
    · have e9 : (t.dO == 9) = true := by rw [h9]; rfl
      have HH9 : Hid (t.dO = 9) := h9
      clear h9 hd
      go_enter Tryd.func88, Tryd.ntmps88
      go_wp2_with fail
      refine (HI1.out _ (HH.out.keep ((Below.refl _ _).alloc (Nat.le_refl _) _))).mono ?_
      rintro e w1 ⟨b, j, hj, rfl, hr, hb1⟩
      rw [Nat.sub_add_cancel hi1] at hr
      have HR : Hid (runR ks r (T.take i) [] = b :: runR ks r (T.take j) []) := hr
      have k1 : w1.cell? ⟨w.heap.size, 0, none⟩ = some (.int .i64 t.dO) := (hb1.cell (p := ⟨w.heap.size, 0, none⟩) (by simp)).trans (by simp)
      have BB : Below w.heap.size w w1 := ((Below.refl w.heap.size w).alloc (Nat.le_refl _) _).trans (hb1.mono (show w.heap.size ≤ _ by simp))
      clear hr hb1 t1 t2 t3 t4
      go_wp2
      go_ret2
      exact ⟨!b, j, by omega, rfl, by rw [HV.out _ HR.out]; unfold stepR; rw [if_neg (by rw [HH9.out]; omega), if_neg (by rw [HH9.out]; omega), if_pos HH9.out], BB⟩
    · have e9 : (t.dO == 9) = false := by rw [beq_eq_false_iff_ne]; exact h9
      have HA2 : Hid ((2 : Int) ≤ cntI (T.take i) 0) := by
        unfold Hid
        have := HA.out
        unfold takesI at this
        rw [if_pos (by omega)] at this
        exact this
      have e78 : ((t.dO == 7) = true ∧ t.dO = 7) ∨ ((t.dO == 7) = false ∧ t.dO = 8) := by
        rcases hd with x | x | x
        · exact .inl ⟨by rw [x]; rfl, x⟩
        · exact .inr ⟨by rw [x]; rfl, x⟩
        · exact absurd x h9
      clear h9 hd
      go_enter Tryd.func88, Tryd.ntmps88
      go_wp2_with fail
      refine (HI1.out _ (HH.out.keep ((Below.refl _ _).alloc (Nat.le_refl _) _))).mono ?_
      rintro e w1 ⟨b, j, hj, rfl, hr, hb1⟩
      rw [Nat.sub_add_cancel hi1] at hr
      have HR : Hid (runR ks r (T.take i) [] = b :: runR ks r (T.take j) []) := hr
      have hj1 : 1 ≤ j := by
        rcases Nat.eq_zero_or_pos j with x | x
        · subst x
          rw [runR_zero] at hr
          have h1 := HL.out
          have h2 := HA2.out
          rw [hr] at h1
          simp at h1
          omega
        · exact x
      have k1 : w1.cell? ⟨w.heap.size, 0, none⟩ = some (.int .i64 t.dO) := (hb1.cell (p := ⟨w.heap.size, 0, none⟩) (by simp)).trans (by simp)
      have BB : Below w.heap.size w w1 := ((Below.refl w.heap.size w).alloc (Nat.le_refl _) _).trans (hb1.mono (show w.heap.size ≤ _ by simp))
      have hz : w.heap.size < w1.heap.size := by have := hb1.size; simp at this; omega
      clear hr hb1 t1 t2 t3 t4
      go_wp2_with fail
      refine (IHJ.out j hj1 (by omega) _ (HH.out.keep BB)).mono ?_
      rintro e w2 ⟨a, j2, hj2, rfl, hr2, hb2⟩
      rw [Nat.sub_add_cancel hj1] at hr2
      have HR2 : Hid (runR ks r (T.take i) [] = b :: a :: runR ks r (T.take j2) []) := by unfold Hid; rw [HR.out, hr2]
      have k2 : w2.cell? ⟨w.heap.size, 0, none⟩ = some (.int .i64 t.dO) := (hb2.cell (p := ⟨w.heap.size, 0, none⟩) hz).trans k1
      have BB2 : Below w.heap.size w w2 := BB.trans (hb2.mono BB.size)
      clear hr2 hb2 BB k1
      rcases e78 with ⟨e7, h7⟩ | ⟨e7, h7⟩
      · have H7 : Hid (t.dO = 7) := h7
        clear h7
        cases a
        all_goals
          go_wp2
          go_ret2
          exact ⟨_, j2, by omega, rfl, by rw [HV.out _ HR2.out]; unfold stepR; rw [if_pos H7.out]; rfl, BB2⟩
      · have H7 : Hid (t.dO = 8) := h7
        clear h7
        cases a
        all_goals
          go_wp2
          go_ret2
          exact ⟨_, j2, by omega, rfl, by rw [HV.out _ HR2.out]; unfold stepR; rw [if_neg (by rw [H7.out]; omega), if_pos H7.out]; rfl, BB2⟩

end Go.Proofs.YtcconhgbefhdeaaDoor
