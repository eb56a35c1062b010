import Derived.Test.YtcconhgbefhdeaaDoorWrongErr
import Derived.Test.YtcconhgbefhdeaaDoorTScan
namespace Go.Proofs.YtcconhgbefhdeaaDoor
open Go.RowKit

def tstNone : Tst := ⟨0, 0, 0, .empty⟩
def testAt (ks : List Int) (T : List Tst) (i : Nat) : Bool := okTB ks (T.getD i tstNone) (cntI (T.take i) 0)

/-- P5: what is wrong with tests, and where. -/
def testFault (ks : List Int) (T : List Tst) : Int × Int :=
  if 40 < T.length then (3, -1) else match firstBad (testAt ks T) T.length with
    | some i => (3, i)
    | none => if 0 < T.length ∧ cntI T 0 ≠ 1 then (3, T.length) else (0, 0)

theorem testFault_ok (ks : List Int) (T : List Tst) (h : (testFault ks T).1 = 0) : ValidT ks T := by
  unfold testFault at h
  split at h
  · simp at h
  · rename_i hl
    cases hb : firstBad (testAt ks T) T.length with
    | some i => rw [hb] at h; simp at h
    | none =>
      rw [hb] at h
      simp only at h
      refine ⟨fun i hi => ?_, ?_, by omega⟩
      · have := firstBad_none _ _ hb i hi
        unfold testAt at this
        have e : T.getD i tstNone = T[i] := by simp [List.getD, hi]
        rw [e] at this
        exact okTB_iff _ _ _ this
      · by_cases h0 : 0 < T.length
        · right
          split at h
          · simp at h
          · rename_i hc; exact Decidable.byContradiction fun hx => hc ⟨h0, hx⟩
        · left; exact List.eq_nil_of_length_eq_zero (by omega)

theorem InnerErr.setBox {w : World} {v : Value} {k a : Int} {B : Nat} {x0 x1 : Option Addr} {l0 c0 l1 c1 : Nat} (h : InnerErr w v k a) (b0 : w.cell? ⟨B, 0, none⟩ = some (.slice x0 l0 c0)) (b1 : w.cell? ⟨B, 1, none⟩ = some (.slice x1 l1 c1)) (u0 u1 : Value) :
    InnerErr ((w.setCell ⟨B, 0, none⟩ u0).setCell ⟨B, 1, none⟩ u1) v k a := by
  obtain ⟨eb, fb, rfl, h1, h2, h3⟩ := h
  have ne : eb ≠ B := by rintro rfl; rw [b1] at h1; simp at h1
  have nf : fb ≠ B := by rintro rfl; rw [b0] at h2; simp at h2
  have far : ∀ b o, b ≠ B → ((w.setCell ⟨B, 0, none⟩ u0).setCell ⟨B, 1, none⟩ u1).cell? ⟨b, o, none⟩ = w.cell? ⟨b, o, none⟩ := fun b o hb => by
    rw [World.cell?_setCell_far _ _ _ _ (fun e => hb e.symm), World.cell?_setCell_far _ _ _ _ (fun e => hb e.symm)]
  exact ⟨eb, fb, rfl, (far _ _ ne).trans h1, (far _ _ nf).trans h2, (far _ _ nf).trans h3⟩

set_option maxHeartbeats 1000000 in
theorem sieveNew_many (sv : Value) (tcap : Nat) (ta : Option Addr) (T : List Tst) (w : World) (h40 : 40 < T.length) :
    Calls Tryd.prog 45 #[sv, .slice ta T.length tcap] w fun e w' => ∃ eb, e = .returned (.tuple #[.agg #[.slice none 0 0, .slice none 0 0], .iface 150 (.pointer (some ⟨eb, 0, none⟩))]) ∧ InnerErr w' (.iface 150 (.pointer (some ⟨eb, 0, none⟩))) 3 (-1) ∧ Below w.heap.size w w' := by
  have h : (40 : Int) < (T.length : Int) := by omega
  go_enter Tryd.func45, Tryd.ntmps45
  go_wp2_with fail
  refine (refuse_any _ _ _ _).mono ?_
  rintro e w1 ⟨eb, rfl, hin1, hb1⟩
  have hbox : w1.heap[w.heap.size]? = some (.cells #[.slice none 0 0, .slice none 0 0] 92 (0, 0)) := (hb1.block _ (by simp)).trans (heap_alloc_new w _)
  have b0 : w1.cell? ⟨w.heap.size, 0, none⟩ = some (.slice none 0 0) := by rw [cell_of_row _ _ _ _ _ _ hbox]; rfl
  have b1 : w1.cell? ⟨w.heap.size, 1, none⟩ = some (.slice none 0 0) := by rw [cell_of_row _ _ _ _ _ _ hbox]; rfl
  have f0 : w1.frozen? ⟨w.heap.size, 0, none⟩ = false := by simp [World.frozen?, hbox]
  have f1 : w1.frozen? ⟨w.heap.size, 1, none⟩ = false := by simp [World.frozen?, hbox]
  go_wp2
  exact bodyPost_ret (v := .tuple #[.agg #[.slice none 0 0, .slice none 0 0], .iface 150 (.pointer (some ⟨eb, 0, none⟩))]) (by simp [results, Tryd.results45, go_sem, b0, b1]) rfl ⟨eb, rfl, hin1.setBox b0 b1 _ _, ((((Below.refl _ _).alloc (Nat.le_refl _) _).trans (hb1.mono (by simp))).setCell (Nat.le_refl _) _).setCell (Nat.le_refl _) _⟩

set_option maxHeartbeats 1000000 in
theorem sieveNew_at (sc scap tcap tg : Nat) (ks : List Int) (T : List Tst) (w : World) (hk : 0 < ks.length) (hks : KindsIn w sc ks) (hin : TestsIn w tg T) (hl40 : T.length ≤ 40) (i : Nat) (hb : firstBad (testAt ks T) T.length = some i) :
    Calls Tryd.prog 45 #[.slice (some ⟨sc, 0, none⟩) ks.length scap, .slice (some ⟨tg, 0, none⟩) T.length tcap] w fun e w' => ∃ eb, e = .returned (.tuple #[.agg #[.slice none 0 0, .slice none 0 0], .iface 150 (.pointer (some ⟨eb, 0, none⟩))]) ∧ InnerErr w' (.iface 150 (.pointer (some ⟨eb, 0, none⟩))) 3 i ∧ Below w.heap.size w w' := by
  obtain ⟨hi, hbad, hgood⟩ := firstBad_some _ _ _ hb
  have h40 : ¬ ((40 : Int) < (T.length : Int)) := by omega
  have hsc : sc < w.heap.size := hks.lt hk
  have htg : tg < w.heap.size := hin.lt (by omega)
  have HT : Hid (TestsIn w tg T) := hin
  have HKS : Hid (KindsIn w sc ks) := hks
  have HB : Hid (testAt ks T i = false) := hbad
  have HG : Hid (∀ j, j < i → testAt ks T j = true) := hgood
  clear hin hks hb hbad hgood
  go_enter Tryd.func45, Tryd.ntmps45
  go_wp2_with fail
  go_loopw [6, 17] (fun a x wr => ∃ k : Nat, k ≤ i ∧ x = .int .i64 k ∧ a = .int .i64 (cntI (T.take k) 0) ∧ Below (w.heap.size + 1) (w.alloc (.cells #[.slice none 0 0, .slice none 0 0] 92)) wr) (fun _ x _ => T.length - (intOf x).toNat)
  case atStart => exact ⟨0, Nat.zero_le _, rfl, rfl, Below.refl _ _⟩
  case round =>
    obtain ⟨k, hk', rfl, rfl, hB⟩ := hrel
    have hlt : k < T.length := by omega
    have hz := hB.size
    simp at hz
    obtain ⟨c1, c2, c3, c4⟩ := HT.out k hlt
    have e : ∀ o, wr.cell? ⟨tg, o, none⟩ = w.cell? ⟨tg, o, none⟩ := fun o => (hB.cell (p := ⟨tg, o, none⟩) (by simp; omega)).trans (cell_alloc w _ tg o htg)
    rw [← e] at c1 c2 c3 c4
    have HK1 : Hid (∀ o, (wr.alloc o).heap[sc]? = w.heap[sc]?) := fun o => (Below.heap_alloc _ _ _ (by omega)).trans ((hB.block sc (by omega)).trans (Below.heap_alloc _ _ _ hsc))
    have hbd := cntI_bd (T.take k) 0
    have htk := takesI_bd T[k].dO
    have hl : (T.take k).length ≤ 40 := by simp; omega
    have HC : Hid (cntI (T.take (k + 1)) 0 = cntI (T.take k) 0 + (1 - takesI T[k].dO)) := cntI_succ T k hlt
    have hte : testAt ks T k = okTB ks T[k] (cntI (T.take k) 0) := by unfold testAt; simp [List.getD, hlt]
    have HTE : Hid (testAt ks T k = okTB ks T[k] (cntI (T.take k) 0)) := hte
    clear e hte
    by_cases hki : k < i
    · have HOK : Hid (okT ks T[k] (cntI (T.take k) 0)) := okTB_iff _ _ _ (by rw [← HTE.out]; exact HG.out k hki)
      go_wp2_with fail
      refine (wrong_ok sc scap ks T[k] _ _ (HKS.out.keep (HK1.out _)) HOK.out).mono ?_
      rintro e w1 ⟨rfl, hb1⟩
      have k1 : w1.cell? ⟨wr.heap.size, 0, none⟩ = some (.int .i64 T[k].dO) := (hb1.cell (p := ⟨wr.heap.size, 0, none⟩) (by simp)).trans (by simp)
      clear c1 c2 c3 c4
      go_wp2_with (go_at_call 67; refine (takes_any _ _).mono ?_; rintro e w' ⟨rfl, rfl⟩)
      go_roundw
      case rel => exact ⟨k + 1, by omega, by go_num, by rw [HC.out], (hB.alloc (by omega) _).trans (hb1.mono (by simp; omega))⟩
      case measure => simp [intOf]; omega
    · have hke : k = i := by omega
      subst hke
      have HOK : Hid (okTB ks T[k] (cntI (T.take k) 0) = false) := by unfold Hid; rw [← HTE.out]; exact HB.out
      go_wp2_with fail
      refine (wrong_bad sc scap ks T[k] _ _ (HKS.out.keep (HK1.out _)) HOK.out).mono ?_
      rintro e w1 ⟨why, rfl, hsaid, hb1⟩
      have hsd : why.toList.isEmpty = false := hsaid
      clear c1 c2 c3 c4 hsaid
      go_wp2_with fail
      refine (refuse_any _ _ _ _).mono ?_
      rintro e w2 ⟨eb, rfl, hin2, hb2⟩
      have s1 := hb1.size
      simp at s1
      have hbox : w2.heap[w.heap.size]? = some (.cells #[.slice none 0 0, .slice none 0 0] 92 (0, 0)) := (hb2.block _ (by omega)).trans ((hb1.block _ (by simp; omega)).trans ((Below.heap_alloc _ _ _ (by omega)).trans ((hB.block _ (by omega)).trans (heap_alloc_new w _))))
      have b0 : w2.cell? ⟨w.heap.size, 0, none⟩ = some (.slice none 0 0) := by rw [cell_of_row _ _ _ _ _ _ hbox]; rfl
      have b1 : w2.cell? ⟨w.heap.size, 1, none⟩ = some (.slice none 0 0) := by rw [cell_of_row _ _ _ _ _ _ hbox]; rfl
      have f0 : w2.frozen? ⟨w.heap.size, 0, none⟩ = false := by simp [World.frozen?, hbox]
      have f1 : w2.frozen? ⟨w.heap.size, 1, none⟩ = false := by simp [World.frozen?, hbox]
      have BB : Below w.heap.size w w2 := ((((Below.refl _ _).alloc (Nat.le_refl _) _).trans (hB.mono (by omega))).alloc (by omega) _).trans ((hb1.mono (by simp; omega)).trans (hb2.mono (by omega)))
      go_wp2
      exact bodyPost_ret (v := .tuple #[.agg #[.slice none 0 0, .slice none 0 0], .iface 150 (.pointer (some ⟨eb, 0, none⟩))]) (by simp [results, Tryd.results45, go_sem, b0, b1]) rfl ⟨eb, rfl, hin2.setBox b0 b1 _ _, (BB.setCell (Nat.le_refl _) _).setCell (Nat.le_refl _) _⟩

set_option maxHeartbeats 1000000 in
theorem sieveNew_left (sc scap tcap tg : Nat) (ks : List Int) (T : List Tst) (w : World) (hk : 0 < ks.length) (hks : KindsIn w sc ks) (hin : TestsIn w tg T) (hl40 : T.length ≤ 40) (hok : ∀ i (h : i < T.length), okT ks T[i] (cntI (T.take i) 0)) (h0 : 0 < T.length) (hne : cntI T 0 ≠ 1) :
    Calls Tryd.prog 45 #[.slice (some ⟨sc, 0, none⟩) ks.length scap, .slice (some ⟨tg, 0, none⟩) T.length tcap] w fun e w' => ∃ eb, e = .returned (.tuple #[.agg #[.slice none 0 0, .slice none 0 0], .iface 150 (.pointer (some ⟨eb, 0, none⟩))]) ∧ InnerErr w' (.iface 150 (.pointer (some ⟨eb, 0, none⟩))) 3 T.length ∧ Below w.heap.size w w' := by
  have h40 : ¬ ((40 : Int) < (T.length : Int)) := by omega
  have hsc : sc < w.heap.size := hks.lt hk
  have htg : tg < w.heap.size := hin.lt (by omega)
  have HT : Hid (TestsIn w tg T) := hin
  have HKS : Hid (KindsIn w sc ks) := hks
  have HOK : Hid (∀ i (h : i < T.length), okT ks T[i] (cntI (T.take i) 0)) := hok
  have HNE : Hid (cntI T 0 ≠ 1) := hne
  clear hin hks hok hne
  go_enter Tryd.func45, Tryd.ntmps45
  go_wp2_with fail
  go_loopw [6, 17] (fun a x wr => ∃ k : Nat, k ≤ T.length ∧ x = .int .i64 k ∧ a = .int .i64 (cntI (T.take k) 0) ∧ Below (w.heap.size + 1) (w.alloc (.cells #[.slice none 0 0, .slice none 0 0] 92)) wr) (fun _ x _ => T.length - (intOf x).toNat)
  case atStart => exact ⟨0, Nat.zero_le _, rfl, rfl, Below.refl _ _⟩
  case round =>
    obtain ⟨k, hk', rfl, rfl, hB⟩ := hrel
    have hz := hB.size
    simp at hz
    by_cases hlt : k < T.length
    · obtain ⟨c1, c2, c3, c4⟩ := HT.out k hlt
      have e : ∀ o, wr.cell? ⟨tg, o, none⟩ = w.cell? ⟨tg, o, none⟩ := fun o => (hB.cell (p := ⟨tg, o, none⟩) (by simp; omega)).trans (cell_alloc w _ tg o htg)
      rw [← e] at c1 c2 c3 c4
      have HK1 : Hid (∀ o, (wr.alloc o).heap[sc]? = w.heap[sc]?) := fun o => (Below.heap_alloc _ _ _ (by omega)).trans ((hB.block sc (by omega)).trans (Below.heap_alloc _ _ _ hsc))
      have hbd := cntI_bd (T.take k) 0
      have htk := takesI_bd T[k].dO
      have hl : (T.take k).length ≤ 40 := by simp; omega
      have HC : Hid (cntI (T.take (k + 1)) 0 = cntI (T.take k) 0 + (1 - takesI T[k].dO)) := cntI_succ T k hlt
      clear e
      go_wp2_with fail
      refine (wrong_ok sc scap ks T[k] _ _ (HKS.out.keep (HK1.out _)) (HOK.out k hlt)).mono ?_
      rintro e w1 ⟨rfl, hb1⟩
      have k1 : w1.cell? ⟨wr.heap.size, 0, none⟩ = some (.int .i64 T[k].dO) := (hb1.cell (p := ⟨wr.heap.size, 0, none⟩) (by simp)).trans (by simp)
      clear c1 c2 c3 c4
      go_wp2_with (go_at_call 67; refine (takes_any _ _).mono ?_; rintro e w' ⟨rfl, rfl⟩)
      go_roundw
      case rel => exact ⟨k + 1, by omega, by go_num, by rw [HC.out], (hB.alloc (by omega) _).trans (hb1.mono (by simp; omega))⟩
      case measure => simp [intOf]; omega
    · have hke : k = T.length := by omega
      have hcc : (cntI (T.take k) 0 != 1) = true := by rw [hke, List.take_length, bne_iff_ne]; exact HNE.out
      have hpos : (0 : Int) < (T.length : Int) := by omega
      clear hke
      generalize cntI (T.take k) 0 = cc at *
      go_wp2_with fail
      refine (refuse_any _ _ _ _).mono ?_
      rintro e w2 ⟨eb, rfl, hin2, hb2⟩
      have hbox : w2.heap[w.heap.size]? = some (.cells #[.slice none 0 0, .slice none 0 0] 92 (0, 0)) := (hb2.block _ (by omega)).trans ((hB.block _ (by omega)).trans (heap_alloc_new w _))
      have b0 : w2.cell? ⟨w.heap.size, 0, none⟩ = some (.slice none 0 0) := by rw [cell_of_row _ _ _ _ _ _ hbox]; rfl
      have b1 : w2.cell? ⟨w.heap.size, 1, none⟩ = some (.slice none 0 0) := by rw [cell_of_row _ _ _ _ _ _ hbox]; rfl
      have f0 : w2.frozen? ⟨w.heap.size, 0, none⟩ = false := by simp [World.frozen?, hbox]
      have f1 : w2.frozen? ⟨w.heap.size, 1, none⟩ = false := by simp [World.frozen?, hbox]
      have BB : Below w.heap.size w w2 := (((Below.refl _ _).alloc (Nat.le_refl _) _).trans (hB.mono (by omega))).trans (hb2.mono (by omega))
      go_wp2
      exact bodyPost_ret (v := .tuple #[.agg #[.slice none 0 0, .slice none 0 0], .iface 150 (.pointer (some ⟨eb, 0, none⟩))]) (by simp [results, Tryd.results45, go_sem, b0, b1]) rfl ⟨eb, rfl, hin2.setBox b0 b1 _ _, (BB.setCell (Nat.le_refl _) _).setCell (Nat.le_refl _) _⟩

theorem sieveNew_bad (sc scap tcap : Nat) (ta : Option Addr) (ks : List Int) (T : List Tst) (w : World) (hk : 0 < ks.length) (hks : KindsIn w sc ks) (hT : TestsAt w ta T) (hf : (testFault ks T).1 ≠ 0) :
    Calls Tryd.prog 45 #[.slice (some ⟨sc, 0, none⟩) ks.length scap, .slice ta T.length tcap] w fun e w' => ∃ eb, e = .returned (.tuple #[.agg #[.slice none 0 0, .slice none 0 0], .iface 150 (.pointer (some ⟨eb, 0, none⟩))]) ∧ InnerErr w' (.iface 150 (.pointer (some ⟨eb, 0, none⟩))) 3 (testFault ks T).2 ∧ Below w.heap.size w w' := by
  by_cases h40 : 40 < T.length
  · have e : (testFault ks T).2 = -1 := by unfold testFault; rw [if_pos h40]
    rw [e]; exact sieveNew_many _ tcap ta T w h40
  · rcases hT with h0 | ⟨tg, rfl, hin⟩
    · exact absurd (by rw [h0]; rfl) hf
    cases hb : firstBad (testAt ks T) T.length with
    | some i =>
      have e : (testFault ks T).2 = (i : Int) := by unfold testFault; rw [if_neg h40, hb]
      rw [e]; exact sieveNew_at sc scap tcap tg ks T w hk hks hin (by omega) i hb
    | none =>
      have hok : ∀ i (h : i < T.length), okT ks T[i] (cntI (T.take i) 0) := fun i hi => by
        have := firstBad_none _ _ hb i hi
        unfold testAt at this
        have e : T.getD i tstNone = T[i] := by simp [List.getD, hi]
        rw [e] at this
        exact okTB_iff _ _ _ this
      by_cases hc : 0 < T.length ∧ cntI T 0 ≠ 1
      · have e : (testFault ks T).2 = (T.length : Int) := by unfold testFault; rw [if_neg h40, hb]; simp only; rw [if_pos hc]
        rw [e]; exact sieveNew_left sc scap tcap tg ks T w hk hks hin (by omega) hok hc.1 hc.2
      · exact absurd (by unfold testFault; rw [if_neg h40, hb]; simp only; rw [if_neg hc]) hf

end Go.Proofs.YtcconhgbefhdeaaDoor
