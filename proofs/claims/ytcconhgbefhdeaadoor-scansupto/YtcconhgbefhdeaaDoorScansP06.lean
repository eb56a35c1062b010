import Derived.Test.YtcconhgbefhdeaaDoorScansP03
import Derived.Test.YtcconhgbefhdeaaDoorScansP05
namespace Go.Proofs.YtcconhgbefhdeaaDoor
open Go.RowKit

def tstNone : Tst := ⟨0, 0, 0, .empty⟩
def testAt (ks : List Int) (T : List Tst) (i : Nat) : Bool := okTB ks (T.getD i tstNone) (cntI (T.take i) 0)

/-- P5: what is wrong with tests, and where. -/
def testFault (ks : List Int) (T : List Tst) : Int × Int :=
  if 40 < T.length then (3, -1) else match firstBad (testAt ks T) T.length with
    | some i => (3, i)
    | none => if 0 < T.length ∧ cntI T 0 ≠ 1 then (3, T.length) else (0, 0)

theorem testFault_ok (ks : List Int) (T : List Tst) (h : (testFault ks T).1 = 0) : ValidT ks T := by
  unfold testFault at h
  split at h
  · simp at h
  · rename_i hl
    cases hb : firstBad (testAt ks T) T.length with
    | some i => rw [hb] at h; simp at h
    | none =>
      rw [hb] at h
      simp only at h
      refine ⟨fun i hi => ?_, ?_, by omega⟩
      · have := firstBad_none _ _ hb i hi
        unfold testAt at this
        have e : T.getD i tstNone = T[i] := by simp [List.getD, hi]
        rw [e] at this
        exact okTB_iff _ _ _ this
      · by_cases h0 : 0 < T.length
        · right
          split at h
          · simp at h
          · rename_i hc; exact Decidable.byContradiction fun hx => hc ⟨h0, hx⟩
        · left; exact List.eq_nil_of_length_eq_zero (by omega)

theorem InnerErr.setBox {w : World} {v : Value} {k a : Int} {B : Nat} {x0 x1 : Option Addr} {l0 c0 l1 c1 : Nat} (h : InnerErr w v k a) (b0 : w.cell? ⟨B, 0, none⟩ = some (.slice x0 l0 c0)) (b1 : w.cell? ⟨B, 1, none⟩ = some (.slice x1 l1 c1)) (u0 u1 : Value) :
    InnerErr ((w.setCell ⟨B, 0, none⟩ u0).setCell ⟨B, 1, none⟩ u1) v k a := by
  obtain ⟨eb, fb, rfl, h1, h2, h3⟩ := h
  have ne : eb ≠ B := by rintro rfl; rw [b1] at h1; simp at h1
  have nf : fb ≠ B := by rintro rfl; rw [b0] at h2; simp at h2
  have far : ∀ b o, b ≠ B → ((w.setCell ⟨B, 0, none⟩ u0).setCell ⟨B, 1, none⟩ u1).cell? ⟨b, o, none⟩ = w.cell? ⟨b, o, none⟩ := fun b o hb => by
    rw [World.cell?_setCell_far _ _ _ _ (fun e => hb e.symm), World.cell?_setCell_far _ _ _ _ (fun e => hb e.symm)]
  exact ⟨eb, fb, rfl, (far _ _ ne).trans h1, (far _ _ nf).trans h2, (far _ _ nf).trans h3⟩

set_option maxHeartbeats 1000000 in
theorem sieveNew_many (sv : Value) (tcap : Nat) (ta : Option Addr) (T : List Tst) (w : World) (h40 : 40 < T.length) :
    Calls Tryd.prog 45 #[sv, .slice ta T.length tcap] w fun e w' => ∃ eb, e = .returned (.tuple #[.agg #[.slice none 0 0, .slice none 0 0], .iface 150 (.pointer (some ⟨eb, 0, none⟩))]) ∧ InnerErr w' (.iface 150 (.pointer (some ⟨eb, 0, none⟩))) 3 (-1) ∧ Below w.heap.size w w' := by
  have h : (40 : Int) < (T.length : Int) := by omega
  go_enter Tryd.func45, Tryd.ntmps45
  go_wp2_with fail
  refine (refuse_any _ _ _ _).mono ?_
  rintro e w1 ⟨eb, rfl, hin1, hb1⟩
  have hbox : w1.heap[w.heap.size]? = some (.cells #[.slice none 0 0, .slice none 0 0] 92 (0, 0)) := (hb1.block _ (by simp)).trans (heap_alloc_new w _)
  have b0 : w1.cell? ⟨w.heap.size, 0, none⟩ = some (.slice none 0 0) := by rw [cell_of_row _ _ _ _ _ _ hbox]; rfl
  have b1 : w1.cell? ⟨w.heap.size, 1, none⟩ = some (.slice none 0 0) := by rw [cell_of_row _ _ _ _ _ _ hbox]; rfl
  have f0 : w1.frozen? ⟨w.heap.size, 0, none⟩ = false := by simp [World.frozen?, hbox]
  have f1 : w1.frozen? ⟨w.heap.size, 1, none⟩ = false := by simp [World.frozen?, hbox]
  go_wp2
  exact bodyPost_ret (v := .tuple #[.agg #[.slice none 0 0, .slice none 0 0], .iface 150 (.pointer (some ⟨eb, 0, none⟩))]) (by simp [results, Tryd.results45, go_sem, b0, b1]) rfl ⟨eb, rfl, hin1.setBox b0 b1 _ _, ((((Below.refl _ _).alloc (Nat.le_refl _) _).trans (hb1.mono (by simp))).setCell (Nat.le_refl _) _).setCell (Nat.le_refl _) _⟩

set_option maxHeartbeats 1000000 in
theorem sieveNew_at (sc scap tcap tg : Nat) (ks : List Int) (T : List Tst) (w : World) (hk : 0 < ks.length) (hks : KindsIn w sc ks) (hin : TestsIn w tg T) (hl40 : T.length ≤ 40) (i : Nat) (hb : firstBad (testAt ks T) T.length = some i) :
    Calls Tryd.prog 45 #[.slice (some ⟨sc, 0, none⟩) ks.length scap, .slice (some ⟨tg, 0, none⟩) T.length tcap] w fun e w' => ∃ eb, e = .returned (.tuple #[.agg #[.slice none 0 0, .slice none 0 0], .iface 150 (.pointer (some ⟨eb, 0, none⟩))]) ∧ InnerErr w' (.iface 150 (.pointer (some ⟨eb, 0, none⟩))) 3 i ∧ Below w.heap.size w w' := by
  obtain ⟨hi, hbad, hgood⟩ := firstBad_some _ _ _ hb
  have h40 : ¬ ((40 : Int) < (T.length : Int)) := by omega
  have hsc : sc < w.heap.size := hks.lt hk
  have htg : tg < w.heap.size := hin.lt (by omega)
  have HT : Hid (TestsIn w tg T) := hin
  have HKS : Hid (KindsIn w sc ks) := hks
  have HB : Hid (testAt ks T i = false) := hbad
  have HG : Hid (∀ j, j < i → testAt ks T j = true) := hgood
  clear hin hks hb hbad hgood
  go_enter Tryd.func45, Tryd.ntmps45
  go_wp2_with fail
  go_loopw [6, 17] (fun a x wr => ∃ k : Nat, k ≤ i ∧ x = .int .i64 k ∧ a = .int .i64 (cntI (T.take k) 0) ∧ Below (w.heap.size + 1) (w.alloc (.cells #[.slice none 0 0, .slice none 0 0] 92)) wr) (fun _ x _ => T.length - (intOf x).toNat)
  case atStart => exact ⟨0, Nat.zero_le _, rfl, rfl, Below.refl _ _⟩
  case round =>
    obtain ⟨k, hk', rfl, rfl, hB⟩ := hrel
    have hlt : k < T.length := by omega
    have hz := hB.size
    simp at hz
    obtain ⟨c1, c2, c3, c4⟩ := HT.out k hlt
    have e : ∀ o, wr.cell? ⟨tg, o, none⟩ = w.cell? ⟨tg, o, none⟩ := fun o => (hB.cell (p := ⟨tg, o, none⟩) (by simp; omega)).trans (cell_alloc w _ tg o htg)
    rw [← e] at c1 c2 c3 c4
    have HK1 : Hid (∀ o, (wr.alloc o).heap[sc]? = w.heap[sc]?) := fun o => (Below.heap_alloc _ _ _ (by omega)).trans ((hB.block sc (by omega)).trans (Below.heap_alloc _ _ _ hsc))
    have hbd := cntI_bd (T.take k) 0
    have htk := takesI_bd T[k].dO
    have hl : (T.take k).length ≤ 40 := by simp; omega
    have HC : Hid (cntI (T.take (k + 1)) 0 = cntI (T.take k) 0 + (1 - takesI T[k].dO)) := cntI_succ T k hlt
    have hte : testAt ks T k = okTB ks T[k] (cntI (T.take k) 0) := by unfold testAt; simp [List.getD, hlt]
    have HTE : Hid (testAt ks T k = okTB ks T[k] (cntI (T.take k) 0)) := hte
    clear e hte
    by_cases hki : k < i
    · have HOK : Hid (okT ks T[k] (cntI (T.take k) 0)) := okTB_iff _ _ _ (by rw [← HTE.out]; exact HG.out k hki)
      go_wp2_with fail
      refine (wrong_ok sc scap ks T[k] _ _ (HKS.out.keep (HK1.out _)) HOK.out).mono ?_
      rintro e w1 ⟨rfl, hb1⟩
      have k1 : w1.cell? ⟨wr.heap.size, 0, none⟩ = some (.int .i64 T[k].dO) := (hb1.cell (p := ⟨wr.heap.size, 0, none⟩) (by simp)).trans (by simp)
      clear c1 c2 c3 c4
      go_wp2_with (go_at_call 67; refine (takes_any _ _).mono ?_; rintro e w' ⟨rfl, rfl⟩)
      go_roundw
      case rel => exact ⟨k + 1, by omega, by go_num, by rw [HC.out], (hB.alloc (by omega) _).trans (hb1.mono (by simp; omega))⟩
      case measure => simp [intOf]; omega
    · have hke : k = i := by omega
      subst hke
      have HOK : Hid (okTB ks T[k] (cntI (T.take k) 0) = false) := by unfold Hid; rw [← HTE.out]; exact HB.out
      go_wp2_with fail
      refine (wrong_bad sc scap ks T[k] _ _ (HKS.out.keep (HK1.out _)) HOK.out).mono ?_
      rintro e w1 ⟨why, rfl, hsaid, hb1⟩
      have hsd : why.toList.isEmpty = false := hsaid
      clear c1 c2 c3 c4 hsaid
      go_wp2_with fail
      refine (refuse_any _ _ _ _).mono ?_
      rintro e w2 ⟨eb, rfl, hin2, hb2⟩
      have s1 := hb1.size
      simp at s1
      have hbox : w2.heap[w.heap.size]? = some (.cells #[.slice none 0 0, .slice none 0 0] 92 (0, 0)) := (hb2.block _ (by omega)).trans ((hb1.block _ (by simp; omega)).trans ((Below.heap_alloc _ _ _ (by omega)).trans ((hB.block _ (by omega)).trans (heap_alloc_new w _))))
      have b0 : w2.cell? ⟨w.heap.size, 0, none⟩ = some (.slice none 0 0) := by rw [cell_of_row _ _ _ _ _ _ hbox]; rfl
      have b1 : w2.cell? ⟨w.heap.size, 1, none⟩ = some (.slice none 0 0) := by rw [cell_of_row _ _ _ _ _ _ hbox]; rfl
      have f0 : w2.frozen? ⟨w.heap.size, 0, none⟩ = false := by simp [World.frozen?, hbox]
      have f1 : w2.frozen? ⟨w.heap.size, 1, none⟩ = false := by simp [World.frozen?, hbox]
      have BB : Below w.heap.size w w2 := ((((Below.refl _ _).alloc (Nat.le_refl _) _).trans (hB.mono (by omega))).alloc (by omega) _).trans ((hb1.mono (by simp; omega)).trans (hb2.mono (by omega)))
      go_wp2
      exact bodyPost_ret (v := .tuple #[.agg #[.slice none 0 0, .slice none 0 0], .iface 150 (.pointer (some ⟨eb, 0, none⟩))]) (by simp [results, Tryd.results45, go_sem, b0, b1]) rfl ⟨eb, rfl, hin2.setBox b0 b1 _ _, (BB.setCell (Nat.le_refl _) _).setCell (Nat.le_refl _) _⟩

set_option maxHeartbeats 1000000 in
theorem sieveNew_left (sc scap tcap tg : Nat) (ks : List Int) (T : List Tst) (w : World) (hk : 0 < ks.length) (hks : KindsIn w sc ks) (hin : TestsIn w tg T) (hl40 : T.length ≤ 40) (hok : ∀ i (h : i < T.length), okT ks T[i] (cntI (T.take i) 0)) (h0 : 0 < T.length) (hne : cntI T 0 ≠ 1) :
    Calls Tryd.prog 45 #[.slice (some ⟨sc, 0, none⟩) ks.length scap, .slice (some ⟨tg, 0, none⟩) T.length tcap] w fun e w' => ∃ eb, e = .returned (.tuple #[.agg #[.slice none 0 0, .slice none 0 0], .iface 150 (.pointer (some ⟨eb, 0, none⟩))]) ∧ InnerErr w' (.iface 150 (.pointer (some ⟨eb, 0, none⟩))) 3 T.length ∧ Below w.heap.size w w' := by
  have h40 : ¬ ((40 : Int) < (T.length : Int)) := by omega
  have hsc : sc < w.heap.size := hks.lt hk
  have htg : tg < w.heap.size := hin.lt (by omega)
  have HT : Hid (TestsIn w tg T) := hin
  have HKS : Hid (KindsIn w sc ks) := hks
  have HOK : Hid (∀ i (h : i < T.length), okT ks T[i] (cntI (T.take i) 0)) := hok
  have HNE : Hid (cntI T 0 ≠ 1) := hne
  clear hin hks hok hne
  go_enter Tryd.func45, Tryd.ntmps45
  go_wp2_with fail
  go_loopw [6, 17] (fun a x wr => ∃ k : Nat, k ≤ T.length ∧ x = .int .i64 k ∧ a = .int .i64 (cntI (T.take k) 0) ∧ Below (w.heap.size + 1) (w.alloc (.cells #[.slice none 0 0, .slice none 0 0] 92)) wr) (fun _ x _ => T.length - (intOf x).toNat)
  case atStart => exact ⟨0, Nat.zero_le _, rfl, rfl, Below.refl _ _⟩
  case round =>
    obtain ⟨k, hk', rfl, rfl, hB⟩ := hrel
    have hz := hB.size
    simp at hz
    by_cases hlt : k < T.length
    · obtain ⟨c1, c2, c3, c4⟩ := HT.out k hlt
      have e : ∀ o, wr.cell? ⟨tg, o, none⟩ = w.cell? ⟨tg, o, none⟩ := fun o => (hB.cell (p := ⟨tg, o, none⟩) (by simp; omega)).trans (cell_alloc w _ tg o htg)
      rw [← e] at c1 c2 c3 c4
      have HK1 : Hid (∀ o, (wr.alloc o).heap[sc]? = w.heap[sc]?) := fun o => (Below.heap_alloc _ _ _ (by omega)).trans ((hB.block sc (by omega)).trans (Below.heap_alloc _ _ _ hsc))
      have hbd := cntI_bd (T.take k) 0
      have htk := takesI_bd T[k].dO
      have hl : (T.take k).length ≤ 40 := by simp; omega
      have HC : Hid (cntI (T.take (k + 1)) 0 = cntI (T.take k) 0 + (1 - takesI T[k].dO)) := cntI_succ T k hlt
      clear e
      go_wp2_with fail
      refine (wrong_ok sc scap ks T[k] _ _ (HKS.out.keep (HK1.out _)) (HOK.out k hlt)).mono ?_
      rintro e w1 ⟨rfl, hb1⟩
      have k1 : w1.cell? ⟨wr.heap.size, 0, none⟩ = some (.int .i64 T[k].dO) := (hb1.cell (p := ⟨wr.heap.size, 0, none⟩) (by simp)).trans (by simp)
      clear c1 c2 c3 c4
      go_wp2_with (go_at_call 67; refine (takes_any _ _).mono ?_; rintro e w' ⟨rfl, rfl⟩)
      go_roundw
      case rel => exact ⟨k + 1, by omega, by go_num, by rw [HC.out], (hB.alloc (by omega) _).trans (hb1.mono (by simp; omega))⟩
      case measure => simp [intOf]; omega
    · have hke : k = T.length := by omega
      have hcc : (cntI (T.take k) 0 != 1) = true := by rw [hke, List.take_length, bne_iff_ne]; exact HNE.out
      have hpos : (0 : Int) < (T.length : Int) := by omega
      clear hke
      generalize cntI (T.take k) 0 = cc at *
      go_wp2_with fail
      refine (refuse_any _ _ _ _).mono ?_
      rintro e w2 ⟨eb, rfl, hin2, hb2⟩
      have hbox : w2.heap[w.heap.size]? = some (.cells #[.slice none 0 0, .slice none 0 0] 92 (0, 0)) := (hb2.block _ (by omega)).trans ((hB.block _ (by omega)).trans (heap_alloc_new w _))
      have b0 : w2.cell? ⟨w.heap.size, 0, none⟩ = some (.slice none 0 0) := by rw [cell_of_row _ _ _ _ _ _ hbox]; rfl
      have b1 : w2.cell? ⟨w.heap.size, 1, none⟩ = some (.slice none 0 0) := by rw [cell_of_row _ _ _ _ _ _ hbox]; rfl
      have f0 : w2.frozen? ⟨w.heap.size, 0, none⟩ = false := by simp [World.frozen?, hbox]
      have f1 : w2.frozen? ⟨w.heap.size, 1, none⟩ = false := by simp [World.frozen?, hbox]
      have BB : Below w.heap.size w w2 := (((Below.refl _ _).alloc (Nat.le_refl _) _).trans (hB.mono (by omega))).trans (hb2.mono (by omega))
      go_wp2
      exact bodyPost_ret (v := .tuple #[.agg #[.slice none 0 0, .slice none 0 0], .iface 150 (.pointer (some ⟨eb, 0, none⟩))]) (by simp [results, Tryd.results45, go_sem, b0, b1]) rfl ⟨eb, rfl, hin2.setBox b0 b1 _ _, (BB.setCell (Nat.le_refl _) _).setCell (Nat.le_refl _) _⟩

theorem sieveNew_bad (sc scap tcap : Nat) (ta : Option Addr) (ks : List Int) (T : List Tst) (w : World) (hk : 0 < ks.length) (hks : KindsIn w sc ks) (hT : TestsAt w ta T) (hf : (testFault ks T).1 ≠ 0) :
    Calls Tryd.prog 45 #[.slice (some ⟨sc, 0, none⟩) ks.length scap, .slice ta T.length tcap] w fun e w' => ∃ eb, e = .returned (.tuple #[.agg #[.slice none 0 0, .slice none 0 0], .iface 150 (.pointer (some ⟨eb, 0, none⟩))]) ∧ InnerErr w' (.iface 150 (.pointer (some ⟨eb, 0, none⟩))) 3 (testFault ks T).2 ∧ Below w.heap.size w w' := by
  by_cases h40 : 40 < T.length
  · have e : (testFault ks T).2 = -1 := by unfold testFault; rw [if_pos h40]
    rw [e]; exact sieveNew_many _ tcap ta T w h40
  · rcases hT with h0 | ⟨tg, rfl, hin⟩
    · exact absurd (by rw [h0]; rfl) hf
    cases hb : firstBad (testAt ks T) T.length with
    | some i =>
      have e : (testFault ks T).2 = (i : Int) := by unfold testFault; rw [if_neg h40, hb]
      rw [e]; exact sieveNew_at sc scap tcap tg ks T w hk hks hin (by omega) i hb
    | none =>
      have hok : ∀ i (h : i < T.length), okT ks T[i] (cntI (T.take i) 0) := fun i hi => by
        have := firstBad_none _ _ hb i hi
        unfold testAt at this
        have e : T.getD i tstNone = T[i] := by simp [List.getD, hi]
        rw [e] at this
        exact okTB_iff _ _ _ this
      by_cases hc : 0 < T.length ∧ cntI T 0 ≠ 1
      · have e : (testFault ks T).2 = (T.length : Int) := by unfold testFault; rw [if_neg h40, hb]; simp only; rw [if_pos hc]
        rw [e]; exact sieveNew_left sc scap tcap tg ks T w hk hks hin (by omega) hok hc.1 hc.2
      · exact absurd (by unfold testFault; rw [if_neg h40, hb]; simp only; rw [if_neg hc]) hf

end Go.Proofs.YtcconhgbefhdeaaDoor

namespace Go.Proofs.YtcconhgbefhdeaaDoor
open Go.RowKit
attribute [local go_sem ↓] Go.wp_at_zero Go.wp_at_succ

theorem firstBad_is (p : Nat → Bool) (n i : Nat) (hi : i < n) (hb : p i = false) (hg : ∀ j, j < i → p j = true) : firstBad p n = some i := by
  cases h : firstBad p n with
  | none => have := firstBad_none p n h i hi; rw [hb] at this; simp at this
  | some j =>
    obtain ⟨h1, h2, h3⟩ := firstBad_some p n j h
    rcases Nat.lt_trichotomy i j with x | x | x
    · have := h3 i x; rw [hb] at this; simp at this
    · rw [x]
    · have := hg j x; rw [h2] at this; simp at this

theorem firstBad_all (p : Nat → Bool) (n : Nat) (hg : ∀ j, j < n → p j = true) : firstBad p n = none := by
  cases h : firstBad p n with
  | none => rfl
  | some j =>
    obtain ⟨h1, h2, h3⟩ := firstBad_some p n j h
    have := hg j h1; rw [h2] at this; simp at this

/-- What a test may be, in the order of the document's answer. -/
theorem okTB_cases (ks : List Int) (t : Tst) (a : Int) :
    (okTB ks t a = false ∧ (t.dO < 1 ∨ (¬ t.dO < 1 ∧ 9 < t.dO)))
    ∨ (okTB ks t a = false ∧ ¬ t.dO < 1 ∧ ¬ 9 < t.dO ∧ t.dO < 7 ∧ (t.col < 0 ∨ (¬ t.col < 0 ∧ (ks.length : Int) ≤ t.col)))
    ∨ (¬ t.dO < 1 ∧ ¬ 9 < t.dO ∧ t.dO < 7 ∧ ∃ c : Nat, t.col = c ∧ ∃ h : c < ks.length, fitsB ks[c] t.n t.s = okTB ks t a)
    ∨ (t.dO = 9 ∧ okTB ks t a = decide (1 ≤ a))
    ∨ ((t.dO = 7 ∨ t.dO = 8) ∧ okTB ks t a = decide (2 ≤ a)) := by
  by_cases h1 : t.dO < 1
  · left; exact ⟨by unfold okTB; rw [if_neg (by omega), if_neg (by omega)], .inl h1⟩
  by_cases h9 : 9 < t.dO
  · left; exact ⟨by unfold okTB; rw [if_neg (by omega), if_neg (by omega)], .inr ⟨h1, h9⟩⟩
  by_cases h7 : t.dO < 7
  · by_cases hc : 0 ≤ t.col ∧ t.col < ks.length
    · right; right; left
      have hl : t.col.toNat < ks.length := by omega
      refine ⟨h1, h9, h7, t.col.toNat, by omega, hl, ?_⟩
      unfold okTB
      rw [if_pos (by omega), decide_eq_true hc, Bool.true_and]
      simp [List.getD, hl]
    · right; left
      exact ⟨by unfold okTB; rw [if_pos (by omega), decide_eq_false hc]; rfl, h1, h9, h7, by omega⟩
  · by_cases h : t.dO = 9
    · right; right; right; left
      exact ⟨h, by unfold okTB takesI; rw [if_neg (by omega), if_pos (by omega), if_neg (by omega), if_pos h]⟩
    · right; right; right; right
      exact ⟨by omega, by unfold okTB takesI; rw [if_neg (by omega), if_pos (by omega), if_pos (by omega)]⟩

set_option maxRecDepth 100000 in
set_option maxHeartbeats 1000000 in
theorem refTests_in (tb sc scap tcap : Nat) (ta : Option Addr) (ks : List Int) (T : List Tst) (w : World) (hk : 0 < ks.length) (hsch : w.cell? ⟨tb, 0, none⟩ = some (.slice (some ⟨sc, 0, none⟩) ks.length scap)) (hks : KindsIn w sc ks) (hty : ∀ x ∈ ks, isTypeB x = true) (hT : TestsA w ta T) (hl40 : T.length ≤ 40) :
    Calls Tryd.prog 77 #[.pointer (some ⟨tb, 0, none⟩), .slice ta T.length tcap] w fun e w' => e = .returned (.tuple #[.int .i64 (testFault ks T).1, .int .i64 (testFault ks T).2]) ∧ Below w.heap.size w w' := by
  have h40 : ¬ ((40 : Int) < (T.length : Int)) := by omega
  have htb : tb < w.heap.size := World.block_lt_of_cell? w ⟨tb, 0, none⟩ hsch
  have hsc : sc < w.heap.size := hks.lt hk
  have HT : Hid (TestsA w ta T) := hT
  have HKS : Hid (KindsIn w sc ks) := hks
  have HTY : Hid (∀ x ∈ ks, isTypeB x = true) := hty
  have HS : Hid (w.cell? ⟨tb, 0, none⟩ = some (.slice (some ⟨sc, 0, none⟩) ks.length scap)) := hsch
  clear hT hks hty hsch
  go_enter Tryd.func77, Tryd.ntmps77
  go_wp2_with fail
  go_loopw [6, 7] (fun a x wr => ∃ k : Nat, k ≤ T.length ∧ x = .int .i64 k ∧ a = .int .i64 (cntI (T.take k) 0) ∧ (∀ j, j < k → testAt ks T j = true) ∧ Below w.heap.size w wr) (fun _ x _ => T.length - (intOf x).toNat)
  case atStart => exact ⟨0, Nat.zero_le _, rfl, rfl, fun j h => absurd h (by omega), Below.refl _ _⟩
  case round =>
    obtain ⟨k, hk', rfl, rfl, hg, hB⟩ := hrel
    have HG : Hid (∀ j, j < k → testAt ks T j = true) := hg
    clear hg
    by_cases hlt : k < T.length
    · have hz := hB.size
      rcases HT.out with h0 | ⟨tg, tz, rfl, hin⟩
      · rw [h0] at hlt; simp at hlt
      have htg : tg < w.heap.size := hin.lt (by omega)
      obtain ⟨c1, c2, c3, c4⟩ := hin k hlt
      clear hin
      have e : ∀ o, wr.cell? ⟨tg, o, none⟩ = w.cell? ⟨tg, o, none⟩ := fun o => hB.cell (p := ⟨tg, o, none⟩) (by simp; omega)
      rw [← e] at c1 c2 c3 c4
      have d0 : wr.cell? ⟨tb, 0, none⟩ = some (.slice (some ⟨sc, 0, none⟩) ks.length scap) := (hB.cell (p := ⟨tb, 0, none⟩) htb).trans HS.out
      have HK1 : Hid (KindsIn wr sc ks) := HKS.out.keep (hB.block sc (by omega))
      have hbd := cntI_bd (T.take k) 0
      have hl : (T.take k).length ≤ 40 := by simp; omega
      have HC : Hid (cntI (T.take (k + 1)) 0 = cntI (T.take k) 0 + (1 - takesI T[k].dO)) := cntI_succ T k hlt
      have hte : testAt ks T k = okTB ks T[k] (cntI (T.take k) 0) := by unfold testAt; simp [List.getD, hlt]
      have HTE : Hid (testAt ks T k = okTB ks T[k] (cntI (T.take k) 0)) := hte
      have HCS := okTB_cases ks T[k] (cntI (T.take k) 0)
      have HBAD : Hid (okTB ks T[k] (cntI (T.take k) 0) = false → testFault ks T = (3, (k : Int))) := fun h => by
        unfold testFault
        rw [if_neg (by omega), firstBad_is (testAt ks T) T.length k hlt (by rw [HTE.out]; exact h) HG.out]
      have HOK : Hid (okTB ks T[k] (cntI (T.take k) 0) = true → ∀ j, j < k + 1 → testAt ks T j = true) := fun h j hj => by
        by_cases x : j < k
        · exact HG.out j x
        · have : j = k := by omega
          subst this; rw [HTE.out]; exact h
      have hn0 := World.new_ne _ _ d0
      clear e hte
      generalize cntI (T.take k) 0 = a at *
      generalize T[k] = t at *
      rcases HCS with ⟨hb, hd⟩ | ⟨hb, d1, d9, d7, hd⟩ | ⟨d1, d9, d7, c, hc, hcl, hf⟩ | ⟨hd, ha⟩ | ⟨hd, ha⟩
      · have HF := HBAD.out hb
        have HF2 : Hid (testFault ks T = (3, (k : Int))) := HF
        clear hb HF
        rcases hd with h | ⟨h, h'⟩
        all_goals
          go_wp2
          go_ret2
          exact ⟨by rw [HF2.out]; rfl, hB.alloc (by omega) _⟩
      · have HF2 : Hid (testFault ks T = (3, (k : Int))) := HBAD.out hb
        have e9 : (t.dO == 9) = false := by rw [beq_eq_false_iff_ne]; omega
        have e7 : (t.dO == 7) = false := by rw [beq_eq_false_iff_ne]; omega
        have e8 : (t.dO == 8) = false := by rw [beq_eq_false_iff_ne]; omega
        clear hb
        rcases hd with h | ⟨h, h'⟩
        · have hx : decide (t.col < 0) = true := by simpa using h
          go_wp2_with fail
          go_quiet (fail)
          go_wp2
          go_ret2
          exact ⟨by rw [HF2.out]; rfl, (hB.alloc (by omega) _).trans ((drewN_below' _ _).mono (by simp; omega))⟩
        · have hx : decide (t.col < 0) = false := by simpa using h
          have hy : decide ((ks.length : Int) ≤ t.col) = true := by simpa using h'
          have dq : (wr.alloc (.cells #[.int .i64 t.dO, .int .i64 t.col, .int .i64 t.n, .string t.s] 32)).cell? ⟨tb, 0, none⟩ = some (.slice (some ⟨sc, 0, none⟩) ks.length scap) := (cell_alloc _ _ _ _ (by omega)).trans d0
          go_wp2_with fail
          go_quiet (fail)
          go_wp2
          go_ret2
          exact ⟨by rw [HF2.out]; rfl, (hB.alloc (by omega) _).trans ((drewN_below' _ _).mono (by simp; omega))⟩
      · have e9 : (t.dO == 9) = false := by rw [beq_eq_false_iff_ne]; omega
        have e7 : (t.dO == 7) = false := by rw [beq_eq_false_iff_ne]; omega
        have e8 : (t.dO == 8) = false := by rw [beq_eq_false_iff_ne]; omega
        have tk : takesI t.dO = 0 := by unfold takesI; rw [if_neg (by omega), if_neg (by omega)]
        have hkt : isTypeB ks[c] = true := HTY.out _ (List.getElem_mem hcl)
        have k1 := HK1.out c hcl
        generalize ks[c] = kk at k1 hf hkt
        have n1 := World.new_ne _ _ k1
        have x0 : (0 : Int) ≤ (c : Int) := by omega
        have x1 : (c : Int) < (ks.length : Int) := by omega
        have hx : decide (t.col < 0) = false := by rw [hc]; simp
        have hy : decide ((ks.length : Int) ≤ t.col) = false := by rw [hc]; simp; omega
        rw [hc] at hx hy c2
        cases hok : okTB ks t a with
        | true =>
          have HO2 : Hid (∀ j, j < k + 1 → testAt ks T j = true) := HOK.out hok
          rw [hok] at hf
          rw [tk] at HC
          clear hok tk
          have dq : (wr.alloc (.cells #[.int .i64 t.dO, .int .i64 c, .int .i64 t.n, .string t.s] 32)).cell? ⟨tb, 0, none⟩ = some (.slice (some ⟨sc, 0, none⟩) ks.length scap) := (cell_alloc _ _ _ _ (by omega)).trans d0
          go_wp2_with fail
          go_quiet (fail)
          go_wp2_with fail
          go_region_held3 (fun w' => w'.cell? ⟨wr.heap.size, 1, none⟩ = some (.int .i64 c) ∧ w'.cell? ⟨wr.heap.size, 2, none⟩ = some (.int .i64 t.n) ∧ w'.cell? ⟨wr.heap.size, 3, none⟩ = some (.string t.s) ∧ w'.cell? ⟨tb, 0, none⟩ = some (.slice (some ⟨sc, 0, none⟩) ks.length scap) ∧ w'.cell? ⟨sc, c, none⟩ = some (.int .i64 kk)) (go_keep)
            (first | (go_at_call 53; refine (refFits_any _ _ _ _ hkt).mono ?_; rintro e w1 ⟨rfl, rfl⟩))
          go_wp2
          go_roundw
          case rel => exact ⟨k + 1, by omega, by go_num, by rw [HC.out]; go_num, HO2.out, ((hB.alloc (by omega) _).trans ((drewN_below' _ _).mono (by simp; omega))).alloc (by simp; omega) _⟩
          case measure => simp [intOf]; omega
        | false =>
          have HF2 : Hid (testFault ks T = (3, (k : Int))) := HBAD.out hok
          rw [hok] at hf
          clear hok tk
          have dq : (wr.alloc (.cells #[.int .i64 t.dO, .int .i64 c, .int .i64 t.n, .string t.s] 32)).cell? ⟨tb, 0, none⟩ = some (.slice (some ⟨sc, 0, none⟩) ks.length scap) := (cell_alloc _ _ _ _ (by omega)).trans d0
          go_wp2_with fail
          go_quiet (fail)
          go_wp2_with fail
          go_region_held3 (fun w' => w'.cell? ⟨wr.heap.size, 1, none⟩ = some (.int .i64 c) ∧ w'.cell? ⟨wr.heap.size, 2, none⟩ = some (.int .i64 t.n) ∧ w'.cell? ⟨wr.heap.size, 3, none⟩ = some (.string t.s) ∧ w'.cell? ⟨tb, 0, none⟩ = some (.slice (some ⟨sc, 0, none⟩) ks.length scap) ∧ w'.cell? ⟨sc, c, none⟩ = some (.int .i64 kk)) (go_keep)
            (first | (go_at_call 53; refine (refFits_any _ _ _ _ hkt).mono ?_; rintro e w1 ⟨rfl, rfl⟩))
          go_wp2
          go_ret2
          exact ⟨by rw [HF2.out]; rfl, ((hB.alloc (by omega) _).trans ((drewN_below' _ _).mono (by simp; omega))).alloc (by simp; omega) _⟩
      · have e9 : (t.dO == 9) = true := by rw [beq_iff_eq]; exact hd
        have e7 : (t.dO == 7) = false := by rw [beq_eq_false_iff_ne]; omega
        have e8 : (t.dO == 8) = false := by rw [beq_eq_false_iff_ne]; omega
        have tk : takesI t.dO = 1 := by unfold takesI; rw [if_neg (by omega), if_pos hd]
        have x1 : ¬ t.dO < 1 := by omega
        have x2 : ¬ 9 < t.dO := by omega
        have x3 : ¬ t.dO < 7 := by omega
        by_cases h : a < 1
        · have HF2 : Hid (testFault ks T = (3, (k : Int))) := HBAD.out (by rw [ha]; simp; omega)
          clear tk hd ha
          go_wp2
          go_ret2
          exact ⟨by rw [HF2.out]; rfl, hB.alloc (by omega) _⟩
        · have HO2 : Hid (∀ j, j < k + 1 → testAt ks T j = true) := HOK.out (by rw [ha]; simp; omega)
          rw [tk] at HC
          clear tk hd ha
          go_wp2
          go_roundw
          case rel => exact ⟨k + 1, by omega, by go_num, by rw [HC.out]; go_num, HO2.out, hB.alloc (by omega) _⟩
          case measure => simp [intOf]; omega
      · have e9 : (t.dO == 9) = false := by rw [beq_eq_false_iff_ne]; omega
        have tk : takesI t.dO = 2 := by unfold takesI; rw [if_pos hd]
        have x1 : ¬ t.dO < 1 := by omega
        have x2 : ¬ 9 < t.dO := by omega
        have x3 : ¬ t.dO < 7 := by omega
        have e78 : (t.dO == 7) = true ∨ ((t.dO == 7) = false ∧ (t.dO == 8) = true) := by
          rcases hd with h | h <;> rw [h] <;> simp
        by_cases h : a < 2
        · have HF2 : Hid (testFault ks T = (3, (k : Int))) := HBAD.out (by rw [ha]; simp; omega)
          clear tk hd ha
          rcases e78 with e7 | ⟨e7, e8⟩
          all_goals
            go_wp2
            go_ret2
            exact ⟨by rw [HF2.out]; rfl, hB.alloc (by omega) _⟩
        · have HO2 : Hid (∀ j, j < k + 1 → testAt ks T j = true) := HOK.out (by rw [ha]; simp; omega)
          rw [tk] at HC
          clear tk hd ha
          rcases e78 with e7 | ⟨e7, e8⟩
          all_goals
            go_wp2
            go_roundw
            case rel => exact ⟨k + 1, by omega, by go_num, by rw [HC.out]; go_num, HO2.out, hB.alloc (by omega) _⟩
            case measure => simp [intOf]; omega
    · have hke : k = T.length := by omega
      have hfa : testFault ks T = if 0 < T.length ∧ cntI T 0 ≠ 1 then (3, (T.length : Int)) else (0, 0) := by
        unfold testFault
        rw [if_neg (by omega), firstBad_all (testAt ks T) T.length (fun j hj => HG.out j (by omega))]
      have hct : T.take k = T := List.take_of_length_le (by omega)
      rw [hct]
      have hnk : ¬ (k : Int) < (T.length : Int) := by omega
      by_cases hp0 : T.length = 0
      · have HF2 : Hid (testFault ks T = (0, 0)) := by unfold Hid; rw [hfa, if_neg (by omega)]
        have hnp : ¬ (0 : Int) < (T.length : Int) := by omega
        clear hfa hct hp0
        go_wp2
        go_ret2
        exact ⟨by rw [HF2.out]; rfl, hB⟩
      have hpos : (0 : Int) < (T.length : Int) := by omega
      by_cases h1 : cntI T 0 = 1
      · have HF2 : Hid (testFault ks T = (0, 0)) := by unfold Hid; rw [hfa, if_neg (by omega)]
        clear hfa hct
        have e1 : (cntI T 0 != 1) = false := by rw [h1]; rfl
        clear h1
        go_wp2
        go_ret2
        exact ⟨by rw [HF2.out]; rfl, hB⟩
      · have HF2 : Hid (testFault ks T = (3, (T.length : Int))) := by unfold Hid; rw [hfa, if_pos ⟨by omega, h1⟩]
        clear hfa hct
        have e1 : (cntI T 0 != 1) = true := by rw [bne_iff_ne]; exact h1
        clear h1
        go_wp2
        go_ret2
        exact ⟨by rw [HF2.out]; rfl, hB⟩

set_option maxHeartbeats 1000000 in
theorem refTests_any (tb sc scap tcap : Nat) (ta : Option Addr) (ks : List Int) (T : List Tst) (w : World) (hk : 0 < ks.length) (hsch : w.cell? ⟨tb, 0, none⟩ = some (.slice (some ⟨sc, 0, none⟩) ks.length scap)) (hks : KindsIn w sc ks) (hty : ∀ x ∈ ks, isTypeB x = true) (hT : TestsA w ta T) :
    Calls Tryd.prog 77 #[.pointer (some ⟨tb, 0, none⟩), .slice ta T.length tcap] w fun e w' => e = .returned (.tuple #[.int .i64 (testFault ks T).1, .int .i64 (testFault ks T).2]) ∧ Below w.heap.size w w' := by
  by_cases h40 : 40 < T.length
  · have HF : Hid (testFault ks T = (3, -1)) := by unfold Hid testFault; rw [if_pos h40]
    have h40' : (40 : Int) < (T.length : Int) := by omega
    go_enter Tryd.func77, Tryd.ntmps77
    go_wp2
    go_ret2
    exact ⟨by rw [HF.out]; rfl, Below.refl _ _⟩
  · exact refTests_in tb sc scap tcap ta ks T w hk hsch hks hty hT (by omega)

end Go.Proofs.YtcconhgbefhdeaaDoor

namespace Go.Proofs.YtcconhgbefhdeaaDoor
open Go.RowKit
attribute [local go_sem ↓] Go.wp_at_zero Go.wp_at_succ

/-- The numbers of a row, of tests, are numbers of 64 bits. -/
def RowRg (r : List (Int × ByteArray)) : Prop := ∀ i (h : i < r.length), -9223372036854775808 ≤ r[i].1 ∧ r[i].1 ≤ 9223372036854775807
def TstRg (T : List Tst) : Prop := ∀ i (h : i < T.length), -9223372036854775808 ≤ T[i].n ∧ T[i].n ≤ 9223372036854775807

theorem fitsB_size (k n : Int) (s : ByteArray) (h : fitsB k n s = true) : s.size ≤ 9000000 := by
  have he : s.toList.isEmpty = true → s.size ≤ 9000000 := fun h => by
    rw [ByteArray.toList_eq] at h
    have : s.data.size = 0 := by
      have h' := List.isEmpty_iff.1 h
      have := congrArg List.length h'
      simpa using this
    have hs : s.size = s.data.size := rfl
    omega
  unfold fitsB at h
  split at h
  · exact he h
  · split at h
    · simp at h; omega
    · split at h
      · simp at h; exact he (by simpa using h.1)
      · simp at h

/-- The document's answer up to an index: the answer, and where the tests ahead of it end. -/
def AnsAt (ks : List Int) (r : List (Int × ByteArray)) (T : List Tst) (i : Nat) (w : World) (e : Ending) (w' : World) : Prop :=
  ∃ (b : Bool) (j : Nat), j ≤ i ∧ e = .returned (.tuple #[.bool b, .int .i64 ((j : Int) - 1)]) ∧ runR ks r (T.take (i + 1)) [] = b :: runR ks r (T.take j) [] ∧ Below w.heap.size w w'

structure RefIn (w : World) (tb sc scap tg tz g : Nat) (ks : List Int) (T : List Tst) (r : List (Int × ByteArray)) : Prop where
  sch : w.cell? ⟨tb, 0, none⟩ = some (.slice (some ⟨sc, 0, none⟩) ks.length scap)
  kinds : KindsIn w sc ks
  tests : TestsO w tg tz T
  row : RowIn w g r

theorem RefIn.keep {w w' : World} {tb sc scap tg tz g : Nat} {ks : List Int} {T : List Tst} {r : List (Int × ByteArray)} (h : RefIn w tb sc scap tg tz g ks T r) (hb : Below w.heap.size w w') : RefIn w' tb sc scap tg tz g ks T r := by
  have e : ∀ b o v, w.cell? ⟨b, o, none⟩ = some v → w'.cell? ⟨b, o, none⟩ = some v := fun b o v hv => (hb.cell (p := ⟨b, o, none⟩) (World.block_lt_of_cell? w ⟨b, o, none⟩ hv)).trans hv
  exact ⟨e _ _ _ h.sch, fun i hi => e _ _ _ (h.kinds i hi), fun i hi => ⟨e _ _ _ (h.tests i hi).1, e _ _ _ (h.tests i hi).2.1, e _ _ _ (h.tests i hi).2.2.1, e _ _ _ (h.tests i hi).2.2.2⟩, fun i hi => ⟨e _ _ _ (h.row i hi).1, e _ _ _ (h.row i hi).2⟩⟩

set_option maxRecDepth 100000 in
set_option maxHeartbeats 1000000 in
theorem refAnswer_cmp (tb sc scap tcap tg tz g rcap : Nat) (ks : List Int) (T : List Tst) (r : List (Int × ByteArray)) (i : Nat) (hi : i < T.length) (hl40 : T.length ≤ 40) (c : Nat) (hc : T[i].col = c) (hcl : c < ks.length) (hcr : c < r.length) (d1 : 1 ≤ T[i].dO) (d6 : T[i].dO ≤ 6) (w : World) (h : RefIn w tb sc scap tg tz g ks T r) (hrg : RowRg r) (htg : TstRg T) (hsz : r[c].2.size ≤ 9000000) :
    Calls Tryd.prog 88 #[.pointer (some ⟨tb, 0, none⟩), .slice (some ⟨tg, tz, none⟩) T.length tcap, .int .i64 i, .slice (some ⟨g, 0, none⟩) r.length rcap] w (AnsAt ks r T i w) := by
  obtain ⟨a1, a2⟩ := hrg c hcr
  obtain ⟨b1, b2⟩ := htg i hi
  have k1 := h.kinds c hcl
  obtain ⟨r1, r2⟩ := h.row c hcr
  obtain ⟨t1, t2, t3, t4⟩ := h.tests i hi
  have s1 := h.sch
  have HR : Hid (runR ks r (T.take (i + 1)) [] = holdsB ks[c] T[i].dO r[c].1 r[c].2 T[i].n T[i].s :: runR ks r (T.take i) []) := by
    unfold Hid
    rw [runR_succ ks r T i hi]
    unfold stepR
    rw [if_neg (by omega), if_neg (by omega), if_neg (by omega), hc]
    simp [List.getD, hcl, hcr]
  have hsc : sc < w.heap.size := World.block_lt_of_cell? w ⟨sc, c, none⟩ k1
  have hg : g < w.heap.size := World.block_lt_of_cell? w ⟨g, c * 2, none⟩ r1
  have htb : tb < w.heap.size := World.block_lt_of_cell? w ⟨tb, 0, none⟩ s1
  rw [hc] at t2
  have c1 : (0 : Int) ≤ (c : Int) := by omega
  have c2 : (c : Int) < (ks.length : Int) := by omega
  have c3 : (c : Int) < (r.length : Int) := by omega
  have i0 : (0 : Int) ≤ (i : Int) := by omega
  have i1 : (i : Int) < (T.length : Int) := by omega
  have i2 : (T.length : Int) ≤ 40 := by omega
  clear h hrg htg hc
  generalize T[i] = t at *
  generalize ks[c] = kk at *
  generalize r[c].1 = rn at *
  generalize r[c].2 = rs at *
  have d7 : t.dO < 7 := by omega
  have n1 := World.new_ne _ _ k1
  have n2 := World.new_ne _ _ r1
  have n3 := World.new_ne _ _ s1
  generalize hkl : ks.length = kl at *
  generalize hrl : r.length = rl at *
  generalize htl : T.length = tl at *
  go_enter Tryd.func88, Tryd.ntmps88
  go_wp2_with fail
  go_region_held3 (fun w' => w'.cell? ⟨w.heap.size, 0, none⟩ = some (.int .i64 t.dO) ∧ w'.cell? ⟨w.heap.size, 1, none⟩ = some (.int .i64 c) ∧ w'.cell? ⟨w.heap.size, 2, none⟩ = some (.int .i64 t.n) ∧ w'.cell? ⟨w.heap.size, 3, none⟩ = some (.string t.s) ∧ w'.cell? ⟨tb, 0, none⟩ = some (.slice (some ⟨sc, 0, none⟩) kl scap) ∧ w'.cell? ⟨sc, c, none⟩ = some (.int .i64 kk) ∧ w'.cell? ⟨g, c * 2, none⟩ = some (.int .i64 rn) ∧ w'.cell? ⟨g, c * 2 + 1, none⟩ = some (.string rs))
    (simp [*, World.cell?_alloc_some])
    (first
      | (go_at_call 96; refine (refSays_holds _ _ _ _ _ _ _ a1 a2 b1 b2 hsz d1 d6).mono ?_; rintro e w1 ⟨rfl, hb1⟩
         obtain ⟨hc1, hf1⟩ := bcell hb1
         have p0 : w1.cell? ⟨w.heap.size, 0, none⟩ = some (.int .i64 t.dO) := (hc1 _ _ (by simp)).trans (by simp)
         have p1 : w1.cell? ⟨w.heap.size, 1, none⟩ = some (.int .i64 c) := (hc1 _ _ (by simp)).trans (by simp)
         have p2 : w1.cell? ⟨w.heap.size, 2, none⟩ = some (.int .i64 t.n) := (hc1 _ _ (by simp)).trans (by simp)
         have p3 : w1.cell? ⟨w.heap.size, 3, none⟩ = some (.string t.s) := (hc1 _ _ (by simp)).trans (by simp)
         have p4 : w1.cell? ⟨tb, 0, none⟩ = some (.slice (some ⟨sc, 0, none⟩) kl scap) := (hc1 _ _ (by simp; omega)).trans ((cell_alloc _ _ tb _ htb).trans s1)
         have p5 : w1.cell? ⟨sc, c, none⟩ = some (.int .i64 kk) := (hc1 _ _ (by simp; omega)).trans ((cell_alloc _ _ sc c hsc).trans k1)
         have p6 : w1.cell? ⟨g, c * 2, none⟩ = some (.int .i64 rn) := (hc1 _ _ (by simp; omega)).trans ((cell_alloc _ _ g _ hg).trans r1)
         have p7 : w1.cell? ⟨g, c * 2 + 1, none⟩ = some (.string rs) := (hc1 _ _ (by simp; omega)).trans ((cell_alloc _ _ g _ hg).trans r2)))
  have BB : Below w.heap.size w w1 := (((Below.refl w.heap.size w).alloc (Nat.le_refl _) _).drew).trans (hb1.mono (show w.heap.size ≤ _ by simp))
  go_wp2
  go_ret2
  exact ⟨_, i, Nat.le_refl _, rfl, HR.out, BB⟩

theorem runR_zero (ks : List Int) (r : List (Int × ByteArray)) (T : List Tst) : runR ks r (T.take 0) [] = [] := by simp [runR]

set_option maxRecDepth 100000 in
set_option maxHeartbeats 1000000 in
theorem refAnswer_any (tb sc scap tcap tg tz g rcap : Nat) (ks : List Int) (T : List Tst) (r : List (Int × ByteArray)) (hl40 : T.length ≤ 40) (hv : ∀ i (h : i < T.length), okT ks T[i] (cntI (T.take i) 0)) (hfit : FitsRow ks r) (hrg : RowRg r) (htg : TstRg T) (i : Nat) :
    ∀ (_ : i < T.length) (w : World), RefIn w tb sc scap tg tz g ks T r → Calls Tryd.prog 88 #[.pointer (some ⟨tb, 0, none⟩), .slice (some ⟨tg, tz, none⟩) T.length tcap, .int .i64 i, .slice (some ⟨g, 0, none⟩) r.length rcap] w (AnsAt ks r T i w) := by
  induction i using Nat.strongRecOn with
  | _ i ih =>
  intro hi w h
  have hlen := runR_length ks r T hv i (by omega)
  rcases hv i hi with ⟨hd, c, hc, hcl, hf⟩ | ⟨hd, ha⟩
  · have hcr : c < r.length := by rw [hfit.1]; exact hcl
    exact refAnswer_cmp tb sc scap tcap tg tz g rcap ks T r i hi hl40 c hc hcl hcr (by omega) (by omega) w h hrg htg (fitsB_size _ _ _ (hfit.2 c hcl hcr))
  · have hi1 : 1 ≤ i := by
      rcases Nat.eq_zero_or_pos i with h0 | h0
      · subst h0
        rw [runR_zero] at hlen
        rcases hd with hd | hd | hd <;> rw [hd] at ha <;> simp [takesI] at ha <;> simp at hlen <;> omega
      · exact h0
    have IH1 := ih (i - 1) (by omega) (by omega)
    rw [show ((i - 1 : Nat) : Int) = (i : Int) - 1 by omega] at IH1
    have IHJ : Hid (∀ j : Nat, 1 ≤ j → j ≤ i → ∀ w : World, RefIn w tb sc scap tg tz g ks T r → Calls Tryd.prog 88 #[.pointer (some ⟨tb, 0, none⟩), .slice (some ⟨tg, tz, none⟩) T.length tcap, .int .i64 ((j : Int) - 1), .slice (some ⟨g, 0, none⟩) r.length rcap] w (AnsAt ks r T (j - 1) w)) := fun j h1 h2 w' h' => by
      have := ih (j - 1) (by omega) (by omega) w' h'
      rwa [show ((j - 1 : Nat) : Int) = (j : Int) - 1 by omega] at this
    have HI1 : Hid (∀ (w : World), RefIn w tb sc scap tg tz g ks T r → Calls Tryd.prog 88 #[.pointer (some ⟨tb, 0, none⟩), .slice (some ⟨tg, tz, none⟩) T.length tcap, .int .i64 ((i : Int) - 1), .slice (some ⟨g, 0, none⟩) r.length rcap] w (AnsAt ks r T (i - 1) w)) := IH1
    have HH : Hid (RefIn w tb sc scap tg tz g ks T r) := h
    have HV : Hid (∀ rs : List Bool, runR ks r (T.take i) [] = rs → runR ks r (T.take (i + 1)) [] = stepR ks r T[i] rs) := fun rs hrs => by rw [runR_succ ks r T i hi, hrs]
    have HL : Hid (((runR ks r (T.take i) []).length : Int) = cntI (T.take i) 0) := hlen
    have HA : Hid (takesI T[i].dO ≤ cntI (T.take i) 0) := ha
    have HD : Hid (T[i].dO = 7 ∨ T[i].dO = 8 ∨ T[i].dO = 9) := hd
    obtain ⟨t1, t2, t3, t4⟩ := h.tests i hi
    clear ih hv hfit hrg htg IH1 h hlen ha
    have i0 : (0 : Int) ≤ (i : Int) := by omega
    have i1 : (i : Int) < (T.length : Int) := by omega
    have i2 : (T.length : Int) ≤ 40 := by omega
    have d7 : ¬ T[i].dO < 7 := by omega
    generalize T[i] = t at *
    generalize htl : T.length = tl at *
    generalize hrl : r.length = rl at *
    by_cases h9 : t.dO = 9
    · have e9 : (t.dO == 9) = true := by rw [h9]; rfl
      have HH9 : Hid (t.dO = 9) := h9
      clear h9 hd
      go_enter Tryd.func88, Tryd.ntmps88
      go_wp2_with fail
      refine (HI1.out _ (HH.out.keep ((Below.refl _ _).alloc (Nat.le_refl _) _))).mono ?_
      rintro e w1 ⟨b, j, hj, rfl, hr, hb1⟩
      rw [Nat.sub_add_cancel hi1] at hr
      have HR : Hid (runR ks r (T.take i) [] = b :: runR ks r (T.take j) []) := hr
      have k1 : w1.cell? ⟨w.heap.size, 0, none⟩ = some (.int .i64 t.dO) := (hb1.cell (p := ⟨w.heap.size, 0, none⟩) (by simp)).trans (by simp)
      have BB : Below w.heap.size w w1 := ((Below.refl w.heap.size w).alloc (Nat.le_refl _) _).trans (hb1.mono (show w.heap.size ≤ _ by simp))
      clear hr hb1 t1 t2 t3 t4
      go_wp2
      go_ret2
      exact ⟨!b, j, by omega, rfl, by rw [HV.out _ HR.out]; unfold stepR; rw [if_neg (by rw [HH9.out]; omega), if_neg (by rw [HH9.out]; omega), if_pos HH9.out], BB⟩
    · have e9 : (t.dO == 9) = false := by rw [beq_eq_false_iff_ne]; exact h9
      have HA2 : Hid ((2 : Int) ≤ cntI (T.take i) 0) := by
        unfold Hid
        have := HA.out
        unfold takesI at this
        rw [if_pos (by omega)] at this
        exact this
      have e78 : ((t.dO == 7) = true ∧ t.dO = 7) ∨ ((t.dO == 7) = false ∧ t.dO = 8) := by
        rcases hd with x | x | x
        · exact .inl ⟨by rw [x]; rfl, x⟩
        · exact .inr ⟨by rw [x]; rfl, x⟩
        · exact absurd x h9
      clear h9 hd
      go_enter Tryd.func88, Tryd.ntmps88
      go_wp2_with fail
      refine (HI1.out _ (HH.out.keep ((Below.refl _ _).alloc (Nat.le_refl _) _))).mono ?_
      rintro e w1 ⟨b, j, hj, rfl, hr, hb1⟩
      rw [Nat.sub_add_cancel hi1] at hr
      have HR : Hid (runR ks r (T.take i) [] = b :: runR ks r (T.take j) []) := hr
      have hj1 : 1 ≤ j := by
        rcases Nat.eq_zero_or_pos j with x | x
        · subst x
          rw [runR_zero] at hr
          have h1 := HL.out
          have h2 := HA2.out
          rw [hr] at h1
          simp at h1
          omega
        · exact x
      have k1 : w1.cell? ⟨w.heap.size, 0, none⟩ = some (.int .i64 t.dO) := (hb1.cell (p := ⟨w.heap.size, 0, none⟩) (by simp)).trans (by simp)
      have BB : Below w.heap.size w w1 := ((Below.refl w.heap.size w).alloc (Nat.le_refl _) _).trans (hb1.mono (show w.heap.size ≤ _ by simp))
      have hz : w.heap.size < w1.heap.size := by have := hb1.size; simp at this; omega
      clear hr hb1 t1 t2 t3 t4
      go_wp2_with fail
      refine (IHJ.out j hj1 (by omega) _ (HH.out.keep BB)).mono ?_
      rintro e w2 ⟨a, j2, hj2, rfl, hr2, hb2⟩
      rw [Nat.sub_add_cancel hj1] at hr2
      have HR2 : Hid (runR ks r (T.take i) [] = b :: a :: runR ks r (T.take j2) []) := by unfold Hid; rw [HR.out, hr2]
      have k2 : w2.cell? ⟨w.heap.size, 0, none⟩ = some (.int .i64 t.dO) := (hb2.cell (p := ⟨w.heap.size, 0, none⟩) hz).trans k1
      have BB2 : Below w.heap.size w w2 := BB.trans (hb2.mono BB.size)
      clear hr2 hb2 BB k1
      rcases e78 with ⟨e7, h7⟩ | ⟨e7, h7⟩
      · have H7 : Hid (t.dO = 7) := h7
        clear h7
        cases a
        all_goals
          go_wp2
          go_ret2
          exact ⟨_, j2, by omega, rfl, by rw [HV.out _ HR2.out]; unfold stepR; rw [if_pos H7.out]; rfl, BB2⟩
      · have H7 : Hid (t.dO = 8) := h7
        clear h7
        cases a
        all_goals
          go_wp2
          go_ret2
          exact ⟨_, j2, by omega, rfl, by rw [HV.out _ HR2.out]; unfold stepR; rw [if_neg (by rw [H7.out]; omega), if_pos H7.out]; rfl, BB2⟩

end Go.Proofs.YtcconhgbefhdeaaDoor
