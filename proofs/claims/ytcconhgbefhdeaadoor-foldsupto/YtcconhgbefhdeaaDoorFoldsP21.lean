import Derived.Test.YtcconhgbefhdeaaDoorFoldsP12
import Derived.Test.YtcconhgbefhdeaaDoorFoldsP20
import Derived.Test.YtcconhgbefhdeaaDoorFoldsP13
import Derived.Test.YtcconhgbefhdeaaDoorFoldsP14
namespace Go.Proofs.YtcconhgbefhdeaaDoor
open Go.RowKit
attribute [local go_sem ↓] Go.wp_at_zero Go.wp_at_succ

theorem step_same {w w' : World} {wb : Nat} {col : Nat → Nat} {Ts : List Tbl} {s : Nat} (h : WorldOK w wb col Ts s) (h0 : 0 < Ts.length) (hF : FrS (fun _ => False) w w') : StepPost wb col s w (.returned (.bool true)) w' :=
  ⟨rfl, _, Ts, h.same (Nat.le_succ s) hF, h0, fun _ hb => if_pos hb, hF.mono (fun _ h => h.elim), BookSame.of_same hF⟩

set_option maxRecDepth 100000 in
set_option maxHeartbeats 2000000 in
theorem scans_fold (wb : Nat) (col : Nat → Nat) (Ts : List Tbl) (s i : Nat) (hi : i < Ts.length) (oat oc on om : Int) (sch row : Value) (ta : Option Addr) (tcap : Nat) (T : List Tst) (w : World) (hE : ErrType w) (h : WorldOK w wb col Ts s) (hT : TestsA w ta T) (htg : TstRg T) (hl : T.length ≤ 9000000) :
    Calls Tryd.prog 42 #[.pointer (some ⟨wb, 0, none⟩), .pointer (some ⟨Ts[i].bt, 0, none⟩), .pointer (some ⟨Ts[i].br, 0, none⟩), .agg #[.int .i64 5, .int .i64 oat, .int .i64 oc, .int .i64 on, sch, row, .slice ta T.length tcap, .int .i64 om]] w (StepPost wb col s w) := by
  obtain ⟨hP, hg, hr⟩ := h.tabs i hi
  obtain ⟨U, U', hTab, hRef, _, _, _⟩ := hP.ex
  have HW : Hid (WorldOK w wb col Ts s) := h
  have HTB : Hid (TabOK w U Ts[i].bt Ts[i].ks Ts[i].rows) := hTab
  have HRF : Hid (RefOK w U' Ts[i].br Ts[i].ks Ts[i].rows) := hRef
  have HI : Hid (i < Ts.length) := hi
  have HTA : Hid (TestsA w ta T) := hT
  clear h hP hTab hRef hT
  have hTs : Hid (0 < Ts.length) := by unfold Hid; omega
  generalize Ts[i].bt = bt at *
  generalize Ts[i].br = br at *
  generalize Ts[i].ks = ks at *
  generalize Ts[i].rows = rows at *
  clear hi
  have hq : ∀ (W : World) (a : Option Addr) (n c n' c' : Nat), (binOp .eql 26 (.slice a n c) (.slice none n' c')).run Tryd.prog W = .ok (.bool (a.isNone)) W := fun W a n c n' c' => Lib.run_eql_slice_nil W _ _ a n c n' c' Tryd.underlying26
  go_enter Tryd.func42, Tryd.ntmps42
  go_wp2_with fail
  have b0 := (Below.refl w.heap.size w).alloc (Nat.le_refl _) (.cells #[.int .i64 5, .int .i64 oat, .int .i64 oc, .int .i64 on, sch, row, .slice ta T.length tcap, .int .i64 om] 28)
  have hblk := heap_alloc_new w (.cells #[.int .i64 5, .int .i64 oat, .int .i64 oc, .int .i64 on, sch, row, .slice ta T.length tcap, .int .i64 om] 28)
  generalize w.alloc (.cells #[.int .i64 5, .int .i64 oat, .int .i64 oc, .int .i64 on, sch, row, .slice ta T.length tcap, .int .i64 om] 28) = w0 at *
  have z0 : w.heap.size < w0.heap.size := (Array.getElem?_eq_some_iff.1 hblk).1
  have o0 : w0.cell? ⟨w.heap.size, 0, none⟩ = some (.int .i64 5) := by rw [cell_of_row _ _ _ _ _ _ hblk]; rfl
  have o2 : w0.cell? ⟨w.heap.size, 2, none⟩ = some (.int .i64 oc) := by rw [cell_of_row _ _ _ _ _ _ hblk]; rfl
  have o3 : w0.cell? ⟨w.heap.size, 3, none⟩ = some (.int .i64 on) := by rw [cell_of_row _ _ _ _ _ _ hblk]; rfl
  have o6 : w0.cell? ⟨w.heap.size, 6, none⟩ = some (.slice ta T.length tcap) := by rw [cell_of_row _ _ _ _ _ _ hblk]; rfl
  clear hblk
  refine (tests_any ta tcap T w0 (HTA.out.keep (fun k hk => b0.block k hk)) hl).mono ?_
  rintro e w1 ⟨rfl, hA, b1⟩
  have z1 : w0.heap.size < w1.heap.size := (Array.getElem?_eq_some_iff.1 hA).1
  have HA : Hid (w1.heap[w0.heap.size]? = some (.cells (tcells (lentT T)).toArray 32 (0, 0))) := hA
  clear hA
  have p6 : w1.cell? ⟨w.heap.size, 6, none⟩ = some (.slice ta T.length tcap) := (b1.cell (p := ⟨w.heap.size, 6, none⟩) z0).trans o6
  have i0 : (0 : Int) ≤ (T.length : Int) := by omega
  have i1 : (T.length : Int) ≤ (T.length : Int) + 2 := by omega
  have hra : ta = none ∨ ∃ a, ta = some a := by cases ta; exact .inl rfl; exact .inr ⟨_, rfl⟩
  rcases hra with rfl | ⟨a, rfl⟩
  rotate_left
  · go_wp2_with fail
    refine (tests_any _ tcap T w1 (HTA.out.keep (fun k hk => (b1.block k (by omega)).trans (b0.block k hk))) hl).mono ?_
    rintro e w2 ⟨rfl, hW, b2⟩
    have HWn : Hid (w2.heap[w1.heap.size]? = some (.cells (tcells (lentT T)).toArray 32 (0, 0))) := hW
    clear hW
    have c0 : w2.cell? ⟨w.heap.size, 0, none⟩ = some (.int .i64 5) := (b2.cell (p := ⟨w.heap.size, 0, none⟩) (show w.heap.size < _ by omega)).trans ((b1.cell (p := ⟨w.heap.size, 0, none⟩) z0).trans o0)
    have c2 : w2.cell? ⟨w.heap.size, 2, none⟩ = some (.int .i64 oc) := (b2.cell (p := ⟨w.heap.size, 2, none⟩) (show w.heap.size < _ by omega)).trans ((b1.cell (p := ⟨w.heap.size, 2, none⟩) z0).trans o2)
    have c3 : w2.cell? ⟨w.heap.size, 3, none⟩ = some (.int .i64 on) := (b2.cell (p := ⟨w.heap.size, 3, none⟩) (show w.heap.size < _ by omega)).trans ((b1.cell (p := ⟨w.heap.size, 3, none⟩) z0).trans o3)
    have c6 : w2.cell? ⟨w.heap.size, 6, none⟩ = some (.slice (some a) T.length tcap) := (b2.cell (p := ⟨w.heap.size, 6, none⟩) (show w.heap.size < _ by omega)).trans p6
    go_wp2_with fail
    refine (tabFolds_any U bt ks rows (T.length + 2) (some ⟨w0.heap.size, 0, none⟩) T oc on w2 (((hE.below b0).below b1).below b2) (HTB.out.keep (fun _ h => h) (fun k hk _ => (b2.block k (by omega)).trans ((b1.block k (by omega)).trans (b0.block k hk)))) hg hr (.inr ⟨_, rfl, TestsIn.of_cells ((b2.block _ z1).trans HA.out) (lentT_take T)⟩)).mono ?_
    rintro e w3 ⟨ev, rfl, herr, b3⟩
    have z3 := b3.size
    have z2 := b2.size
    obtain ⟨V, hV⟩ : ∃ V, foldVal ks rows T oc on = V := ⟨_, rfl⟩
    obtain ⟨N, hN⟩ : ∃ N, foldCount ks rows T oc on = N := ⟨_, rfl⟩
    have HV : Hid (foldVal ks rows T oc on = V) := hV
    have HN : Hid (foldCount ks rows T oc on = N) := hN
    rw [hV, hN]
    clear hV hN
    go_wp2_with fail
    have herr4 := herr.below ((Below.refl _ _).alloc (Nat.le_refl _) (.cells #[.int .i64 V.1, .string V.2] 30))
    have vb := heap_alloc_new w3 (.cells #[.int .i64 V.1, .string V.2] 30)
    have b4 := (Below.refl w3.heap.size w3).alloc (Nat.le_refl _) (.cells #[.int .i64 V.1, .string V.2] 30)
    clear herr
    generalize w3.alloc (.cells #[.int .i64 V.1, .string V.2] 30) = w4 at *
    have z4 : w3.heap.size < w4.heap.size := (Array.getElem?_eq_some_iff.1 vb).1
    refine (lawFault_any ev _ _ w4 herr4).mono ?_
    rintro e _ ⟨rfl, n, rfl⟩
    have b34 : ∀ k, k < w2.heap.size → (w4.drewN n).heap[k]? = w2.heap[k]? := fun k hk => (b4.block k (by omega)).trans (b3.block k hk)
    have d2 : (w4.drewN n).cell? ⟨w.heap.size, 2, none⟩ = some (.int .i64 oc) := (World.cell?_of_block (w := w2) (a := ⟨w.heap.size, 2, none⟩) (b34 w.heap.size (by omega))).trans c2
    have d3 : (w4.drewN n).cell? ⟨w.heap.size, 3, none⟩ = some (.int .i64 on) := (World.cell?_of_block (w := w2) (a := ⟨w.heap.size, 3, none⟩) (b34 w.heap.size (by omega))).trans c3
    have d6 : (w4.drewN n).cell? ⟨w.heap.size, 6, none⟩ = some (.slice (some a) T.length tcap) := (World.cell?_of_block (w := w2) (a := ⟨w.heap.size, 6, none⟩) (b34 w.heap.size (by omega))).trans c6
    have hold : ∀ k, k < w.heap.size → (w4.drewN n).heap[k]? = w.heap[k]? := fun k hk => (b34 k (by omega)).trans ((b2.block k (by omega)).trans ((b1.block k (by omega)).trans (b0.block k hk)))
    have HOLD : Hid (∀ k, k < w.heap.size → (w4.drewN n).heap[k]? = w.heap[k]?) := hold
    have HVB : Hid (w4.heap[w3.heap.size]? = some (.cells #[.int .i64 V.1, .string V.2] 30 (0, 0))) := vb
    have HB34 : Hid (∀ k, k < w2.heap.size → (w4.drewN n).heap[k]? = w2.heap[k]?) := b34
    clear hold vb herr4 b34
    go_wp2_with fail
    refine (refFolds_any U' br ks rows tcap (some a) T oc on (w4.drewN n) (HRF.out.keep (fun _ h => h) (fun k hk _ => HOLD.out k hk)) hg hr (HTA.out.keep (fun k hk => HOLD.out k hk)) htg).mono ?_
    rintro e w5 ⟨rfl, b5⟩
    rw [HV.out, HN.out]
    have z5 : w4.heap.size ≤ w5.heap.size := b5.size
    go_wp2_with fail
    have xb := heap_alloc_new w5 (.cells #[.int .i64 V.1, .string V.2] 30)
    have b6 := (Below.refl w5.heap.size w5).alloc (Nat.le_refl _) (.cells #[.int .i64 V.1, .string V.2] 30)
    generalize w5.alloc (.cells #[.int .i64 V.1, .string V.2] 30) = w6 at *
    have z6 : w5.heap.size < w6.heap.size := (Array.getElem?_eq_some_iff.1 xb).1
    have b56 : ∀ k, k < w4.heap.size → w6.heap[k]? = w4.heap[k]? := fun k hk => (b6.block k (by omega)).trans (b5.block k hk)
    have zw1 : w1.heap.size < w2.heap.size := (Array.getElem?_eq_some_iff.1 HWn.out).1
    have hA6 : w6.heap[w0.heap.size]? = some (.cells (tcells (lentT T)).toArray 32 (0, 0)) := (b56 _ (by omega)).trans ((HB34.out _ (by omega)).trans ((b2.block _ z1).trans HA.out))
    have hW6 : w6.heap[w1.heap.size]? = some (.cells (tcells (lentT T)).toArray 32 (0, 0)) := (b56 _ (by omega)).trans ((HB34.out _ (by omega)).trans HWn.out)
    have hst := sameTests_eq w0.heap.size w1.heap.size (T.length + 2) (T.length + 2) (lentT T) w6 hA6 (TestsIn.of_cells hW6 (by rw [← tcells_length, List.take_length])) (by omega) (by rw [lentT_length]; omega) (by rw [lentT_length]; omega)
    rw [lentT_length] at hst
    refine hst.mono ?_
    clear hst hA6 hW6
    rintro e w7 ⟨rfl, f7⟩
    have z7 := f7.size
    have vb7 : w7.heap[w3.heap.size]? = some (.cells #[.int .i64 V.1, .string V.2] 30 (0, 0)) := (f7.block _ (by omega) (by simp; omega)).trans ((b56 _ z4).trans HVB.out)
    have xb7 : w7.heap[w5.heap.size]? = some (.cells #[.int .i64 V.1, .string V.2] 30 (0, 0)) := (f7.block _ (by omega) (by simp; omega)).trans xb
    have q0 : w7.cell? ⟨w3.heap.size, 0, none⟩ = some (.int .i64 V.1) := by rw [cell_of_row _ _ _ _ _ _ vb7]; rfl
    have q1 : w7.cell? ⟨w3.heap.size, 1, none⟩ = some (.string V.2) := by rw [cell_of_row _ _ _ _ _ _ vb7]; rfl
    have q2 : w7.cell? ⟨w5.heap.size, 0, none⟩ = some (.int .i64 V.1) := by rw [cell_of_row _ _ _ _ _ _ xb7]; rfl
    have q3 : w7.cell? ⟨w5.heap.size, 1, none⟩ = some (.string V.2) := by rw [cell_of_row _ _ _ _ _ _ xb7]; rfl
    have h7 : FrS (fun _ => False) w w7 := by
      refine ⟨f7.os.trans (b6.os.trans (b5.os.trans (b4.os.trans (b3.os.trans (b2.os.trans (b1.os.trans b0.os)))))), f7.tape.trans (b6.tape.trans (b5.tape.trans (b4.tape.trans (b3.tape.trans (b2.tape.trans (b1.tape.trans b0.tape)))))), f7.output.trans (b6.output.trans (b5.output.trans (b4.output.trans (b3.output.trans (b2.output.trans (b1.output.trans b0.output)))))), by omega, fun b hb _ => ?_⟩
      exact (f7.block b (by omega) (by simp; omega)).trans ((b56 b (by omega)).trans (HOLD.out b hb))
    have HP : Hid (∀ n, StepPost wb col s w (.returned (.bool true)) (w7.drewN n)) := fun n => step_same HW.out hTs.out ⟨h7.os, h7.tape, h7.output, h7.size, h7.block⟩
    generalize foldFault ks T oc on = F at *
    clear f7 vb7 xb7 xb h7 b56
    go_wp2
    go_ret
    exact HP.out 0
  · go_wp2_with fail
    refine (tests_any _ tcap T w1 (HTA.out.keep (fun k hk => (b1.block k (by omega)).trans (b0.block k hk))) hl).mono ?_
    rintro e w2 ⟨rfl, hW, b2⟩
    have HWn : Hid (w2.heap[w1.heap.size]? = some (.cells (tcells (lentT T)).toArray 32 (0, 0))) := hW
    clear hW
    have c0 : w2.cell? ⟨w.heap.size, 0, none⟩ = some (.int .i64 5) := (b2.cell (p := ⟨w.heap.size, 0, none⟩) (show w.heap.size < _ by omega)).trans ((b1.cell (p := ⟨w.heap.size, 0, none⟩) z0).trans o0)
    have c2 : w2.cell? ⟨w.heap.size, 2, none⟩ = some (.int .i64 oc) := (b2.cell (p := ⟨w.heap.size, 2, none⟩) (show w.heap.size < _ by omega)).trans ((b1.cell (p := ⟨w.heap.size, 2, none⟩) z0).trans o2)
    have c3 : w2.cell? ⟨w.heap.size, 3, none⟩ = some (.int .i64 on) := (b2.cell (p := ⟨w.heap.size, 3, none⟩) (show w.heap.size < _ by omega)).trans ((b1.cell (p := ⟨w.heap.size, 3, none⟩) z0).trans o3)
    have c6 : w2.cell? ⟨w.heap.size, 6, none⟩ = some (.slice none T.length tcap) := (b2.cell (p := ⟨w.heap.size, 6, none⟩) (show w.heap.size < _ by omega)).trans p6
    go_wp2_with fail
    have HT0 : Hid (T = []) := by
      rcases HTA.out with h | ⟨g, zo, h, _⟩
      · exact h
      · cases h
    have hts := tabFolds_any U bt ks rows 0 none T oc on w2 (((hE.below b0).below b1).below b2) (HTB.out.keep (fun _ h => h) (fun k hk _ => (b2.block k (by omega)).trans ((b1.block k (by omega)).trans (b0.block k hk)))) hg hr (.inl HT0.out)
    rw [show T.length = 0 by rw [HT0.out]; rfl] at hts
    refine hts.mono ?_
    clear hts
    rintro e w3 ⟨ev, rfl, herr, b3⟩
    have z3 := b3.size
    have z2 := b2.size
    obtain ⟨V, hV⟩ : ∃ V, foldVal ks rows T oc on = V := ⟨_, rfl⟩
    obtain ⟨N, hN⟩ : ∃ N, foldCount ks rows T oc on = N := ⟨_, rfl⟩
    have HV : Hid (foldVal ks rows T oc on = V) := hV
    have HN : Hid (foldCount ks rows T oc on = N) := hN
    rw [hV, hN]
    clear hV hN
    go_wp2_with fail
    have herr4 := herr.below ((Below.refl _ _).alloc (Nat.le_refl _) (.cells #[.int .i64 V.1, .string V.2] 30))
    have vb := heap_alloc_new w3 (.cells #[.int .i64 V.1, .string V.2] 30)
    have b4 := (Below.refl w3.heap.size w3).alloc (Nat.le_refl _) (.cells #[.int .i64 V.1, .string V.2] 30)
    clear herr
    generalize w3.alloc (.cells #[.int .i64 V.1, .string V.2] 30) = w4 at *
    have z4 : w3.heap.size < w4.heap.size := (Array.getElem?_eq_some_iff.1 vb).1
    refine (lawFault_any ev _ _ w4 herr4).mono ?_
    rintro e _ ⟨rfl, n, rfl⟩
    have b34 : ∀ k, k < w2.heap.size → (w4.drewN n).heap[k]? = w2.heap[k]? := fun k hk => (b4.block k (by omega)).trans (b3.block k hk)
    have d2 : (w4.drewN n).cell? ⟨w.heap.size, 2, none⟩ = some (.int .i64 oc) := (World.cell?_of_block (w := w2) (a := ⟨w.heap.size, 2, none⟩) (b34 w.heap.size (by omega))).trans c2
    have d3 : (w4.drewN n).cell? ⟨w.heap.size, 3, none⟩ = some (.int .i64 on) := (World.cell?_of_block (w := w2) (a := ⟨w.heap.size, 3, none⟩) (b34 w.heap.size (by omega))).trans c3
    have d6 : (w4.drewN n).cell? ⟨w.heap.size, 6, none⟩ = some (.slice none T.length tcap) := (World.cell?_of_block (w := w2) (a := ⟨w.heap.size, 6, none⟩) (b34 w.heap.size (by omega))).trans c6
    have hold : ∀ k, k < w.heap.size → (w4.drewN n).heap[k]? = w.heap[k]? := fun k hk => (b34 k (by omega)).trans ((b2.block k (by omega)).trans ((b1.block k (by omega)).trans (b0.block k hk)))
    have HOLD : Hid (∀ k, k < w.heap.size → (w4.drewN n).heap[k]? = w.heap[k]?) := hold
    have HVB : Hid (w4.heap[w3.heap.size]? = some (.cells #[.int .i64 V.1, .string V.2] 30 (0, 0))) := vb
    have HB34 : Hid (∀ k, k < w2.heap.size → (w4.drewN n).heap[k]? = w2.heap[k]?) := b34
    clear hold vb herr4 b34
    go_wp2_with fail
    refine (refFolds_any U' br ks rows tcap none T oc on (w4.drewN n) (HRF.out.keep (fun _ h => h) (fun k hk _ => HOLD.out k hk)) hg hr (HTA.out.keep (fun k hk => HOLD.out k hk)) htg).mono ?_
    rintro e w5 ⟨rfl, b5⟩
    rw [HV.out, HN.out]
    have z5 : w4.heap.size ≤ w5.heap.size := b5.size
    go_wp2_with fail
    have xb := heap_alloc_new w5 (.cells #[.int .i64 V.1, .string V.2] 30)
    have b6 := (Below.refl w5.heap.size w5).alloc (Nat.le_refl _) (.cells #[.int .i64 V.1, .string V.2] 30)
    generalize w5.alloc (.cells #[.int .i64 V.1, .string V.2] 30) = w6 at *
    have z6 : w5.heap.size < w6.heap.size := (Array.getElem?_eq_some_iff.1 xb).1
    have b56 : ∀ k, k < w4.heap.size → w6.heap[k]? = w4.heap[k]? := fun k hk => (b6.block k (by omega)).trans (b5.block k hk)
    have zw1 : w1.heap.size < w2.heap.size := (Array.getElem?_eq_some_iff.1 HWn.out).1
    have hA6 : w6.heap[w0.heap.size]? = some (.cells (tcells (lentT T)).toArray 32 (0, 0)) := (b56 _ (by omega)).trans ((HB34.out _ (by omega)).trans ((b2.block _ z1).trans HA.out))
    have hW6 : w6.heap[w1.heap.size]? = some (.cells (tcells (lentT T)).toArray 32 (0, 0)) := (b56 _ (by omega)).trans ((HB34.out _ (by omega)).trans HWn.out)
    have hst := sameTests_eq w0.heap.size w1.heap.size (T.length + 2) (T.length + 2) (lentT T) w6 hA6 (TestsIn.of_cells hW6 (by rw [← tcells_length, List.take_length])) (by omega) (by rw [lentT_length]; omega) (by rw [lentT_length]; omega)
    rw [lentT_length] at hst
    refine hst.mono ?_
    clear hst hA6 hW6
    rintro e w7 ⟨rfl, f7⟩
    have z7 := f7.size
    have vb7 : w7.heap[w3.heap.size]? = some (.cells #[.int .i64 V.1, .string V.2] 30 (0, 0)) := (f7.block _ (by omega) (by simp; omega)).trans ((b56 _ z4).trans HVB.out)
    have xb7 : w7.heap[w5.heap.size]? = some (.cells #[.int .i64 V.1, .string V.2] 30 (0, 0)) := (f7.block _ (by omega) (by simp; omega)).trans xb
    have q0 : w7.cell? ⟨w3.heap.size, 0, none⟩ = some (.int .i64 V.1) := by rw [cell_of_row _ _ _ _ _ _ vb7]; rfl
    have q1 : w7.cell? ⟨w3.heap.size, 1, none⟩ = some (.string V.2) := by rw [cell_of_row _ _ _ _ _ _ vb7]; rfl
    have q2 : w7.cell? ⟨w5.heap.size, 0, none⟩ = some (.int .i64 V.1) := by rw [cell_of_row _ _ _ _ _ _ xb7]; rfl
    have q3 : w7.cell? ⟨w5.heap.size, 1, none⟩ = some (.string V.2) := by rw [cell_of_row _ _ _ _ _ _ xb7]; rfl
    have h7 : FrS (fun _ => False) w w7 := by
      refine ⟨f7.os.trans (b6.os.trans (b5.os.trans (b4.os.trans (b3.os.trans (b2.os.trans (b1.os.trans b0.os)))))), f7.tape.trans (b6.tape.trans (b5.tape.trans (b4.tape.trans (b3.tape.trans (b2.tape.trans (b1.tape.trans b0.tape)))))), f7.output.trans (b6.output.trans (b5.output.trans (b4.output.trans (b3.output.trans (b2.output.trans (b1.output.trans b0.output)))))), by omega, fun b hb _ => ?_⟩
      exact (f7.block b (by omega) (by simp; omega)).trans ((b56 b (by omega)).trans (HOLD.out b hb))
    have HP : Hid (∀ n, StepPost wb col s w (.returned (.bool true)) (w7.drewN n)) := fun n => step_same HW.out hTs.out ⟨h7.os, h7.tape, h7.output, h7.size, h7.block⟩
    generalize foldFault ks T oc on = F at *
    clear f7 vb7 xb7 xb h7 b56
    go_wp2
    go_ret
    exact HP.out 0

end Go.Proofs.YtcconhgbefhdeaaDoor

namespace Go.Proofs.YtcconhgbefhdeaaDoor
open Go.RowKit
attribute [local go_sem ↓] Go.wp_at_zero Go.wp_at_succ

theorem step_turn {w w' : World} {wb : Nat} {col : Nat → Nat} {Ts : List Tbl} {s : Nat} (h : WorldOK w wb col Ts s) (i : Nat) (hi : i < Ts.length) (rows' : List (List (Int × ByteArray))) (hP : Pair w' (fun b => col b = 3 + i ∨ w.heap.size ≤ b) Ts[i].bt Ts[i].br Ts[i].ks rows') (hF : FrS (fun b => col b = 3 + i) w w') (hg : GoodR Ts[i].ks rows') : StepPost wb col s w (.returned (.bool true)) w' := by
  have h1 := h.same (Nat.le_succ s) (FrS.refl _ w)
  have hF' : FrS (fun b => (fun b => if b < w.heap.size then col b else 0) b = 3 + i) w w' := ⟨hF.os, hF.tape, hF.output, hF.size, fun k hk hn => hF.block k hk (fun e => hn (by show (if k < w.heap.size then col k else 0) = 3 + i; rw [if_pos hk]; exact e))⟩
  have t := h1.turn i hi rows' (hP.keep (Nat.le_refl _) (fun k _ hs => by
    by_cases hk : k < w.heap.size
    · left
      show (if k < w.heap.size then col k else 0) = 3 + i
      rw [if_pos hk]
      rcases hs with hs | hs
      · exact hs
      · omega
    · right; omega) (fun _ _ _ => rfl)) hF' hg
  refine ⟨rfl, _, _, t, by simp; omega, fun b hb => ?_, hF.mono (fun k hk => by omega), h.bookSame hF⟩
  show (if b < w.heap.size then (if b < w.heap.size then col b else 0) else 3 + i) = col b
  rw [if_pos hb, if_pos hb]

set_option maxRecDepth 100000 in
set_option maxHeartbeats 2000000 in
theorem scans_delete (wb : Nat) (col : Nat → Nat) (Ts : List Tbl) (s i : Nat) (hi : i < Ts.length) (oat oc on om : Int) (sch row : Value) (ta : Option Addr) (tcap : Nat) (T : List Tst) (w : World) (hE : ErrType w) (h : WorldOK w wb col Ts s) (hT : TestsA w ta T) (hcol : T ≠ [] → ∀ a, ta = some a → col a.block = 0) (htg : TstRg T) (hl : T.length ≤ 9000000) :
    Calls Tryd.prog 42 #[.pointer (some ⟨wb, 0, none⟩), .pointer (some ⟨Ts[i].bt, 0, none⟩), .pointer (some ⟨Ts[i].br, 0, none⟩), .agg #[.int .i64 4, .int .i64 oat, .int .i64 oc, .int .i64 on, sch, row, .slice ta T.length tcap, .int .i64 om]] w (StepPost wb col s w) := by
  obtain ⟨hP, hg, hr⟩ := h.tabs i hi
  obtain ⟨U, U', hTab, hRef, hU, hU', hd⟩ := hP.ex
  have HCL : Hid (∀ w', (∀ k, k < w.heap.size → ¬ col k = 3 + i → w'.heap[k]? = w.heap[k]?) → TestsA w' ta T) := fun w' hb => by
    rcases hT with h | ⟨g, zo, h, h2⟩
    · exact .inl h
    · by_cases h0 : 0 < T.length
      · have hc := hcol (by intro e; rw [e] at h0; simp at h0) _ h
        have hc' : col g = 0 := hc
        exact .inr ⟨g, zo, h, h2.keep (hb g (h2.lt h0) (by rw [hc']; omega))⟩
      · exact .inl (List.eq_nil_of_length_eq_zero (by omega))
  have HEND : Hid (∀ w' rows', Pair w' (fun b => col b = 3 + i ∨ w.heap.size ≤ b) Ts[i].bt Ts[i].br Ts[i].ks rows' → FrS (fun b => col b = 3 + i) w w' → GoodR Ts[i].ks rows' → StepPost wb col s w (.returned (.bool true)) w') := fun w' rows' a1 a2 a3 => step_turn h i hi rows' a1 a2 a3
  have HTB : Hid (TabOK w U Ts[i].bt Ts[i].ks Ts[i].rows) := hTab
  have HRF : Hid (RefOK w U' Ts[i].br Ts[i].ks Ts[i].rows) := hRef
  have HTA : Hid (TestsA w ta T) := hT
  clear h hP hTab hRef hT hcol
  generalize Ts[i].bt = bt at *
  generalize Ts[i].br = br at *
  generalize Ts[i].ks = ks at *
  generalize Ts[i].rows = rows at *
  clear hi
  have hq : ∀ (W : World) (a : Option Addr) (n c n' c' : Nat), (binOp .eql 26 (.slice a n c) (.slice none n' c')).run Tryd.prog W = .ok (.bool (a.isNone)) W := fun W a n c n' c' => Lib.run_eql_slice_nil W _ _ a n c n' c' Tryd.underlying26
  go_enter Tryd.func42, Tryd.ntmps42
  go_wp2_with fail
  have b0 := (Below.refl w.heap.size w).alloc (Nat.le_refl _) (.cells #[.int .i64 4, .int .i64 oat, .int .i64 oc, .int .i64 on, sch, row, .slice ta T.length tcap, .int .i64 om] 28)
  have hblk := heap_alloc_new w (.cells #[.int .i64 4, .int .i64 oat, .int .i64 oc, .int .i64 on, sch, row, .slice ta T.length tcap, .int .i64 om] 28)
  generalize w.alloc (.cells #[.int .i64 4, .int .i64 oat, .int .i64 oc, .int .i64 on, sch, row, .slice ta T.length tcap, .int .i64 om] 28) = w0 at *
  have z0 : w.heap.size < w0.heap.size := (Array.getElem?_eq_some_iff.1 hblk).1
  have o0 : w0.cell? ⟨w.heap.size, 0, none⟩ = some (.int .i64 4) := by rw [cell_of_row _ _ _ _ _ _ hblk]; rfl
  have o6 : w0.cell? ⟨w.heap.size, 6, none⟩ = some (.slice ta T.length tcap) := by rw [cell_of_row _ _ _ _ _ _ hblk]; rfl
  clear hblk
  refine (tests_any ta tcap T w0 (HTA.out.keep (fun k hk => b0.block k hk)) hl).mono ?_
  rintro e w1 ⟨rfl, hA, b1⟩
  have z1 : w0.heap.size < w1.heap.size := (Array.getElem?_eq_some_iff.1 hA).1
  have HA : Hid (w1.heap[w0.heap.size]? = some (.cells (tcells (lentT T)).toArray 32 (0, 0))) := hA
  clear hA
  have p6 : w1.cell? ⟨w.heap.size, 6, none⟩ = some (.slice ta T.length tcap) := (b1.cell (p := ⟨w.heap.size, 6, none⟩) z0).trans o6
  have i0 : (0 : Int) ≤ (T.length : Int) := by omega
  have i1 : (T.length : Int) ≤ (T.length : Int) + 2 := by omega
  have hra : ta = none ∨ ∃ a, ta = some a := by cases ta; exact .inl rfl; exact .inr ⟨_, rfl⟩
  rcases hra with rfl | ⟨a, rfl⟩
  rotate_left
  · go_wp2_with fail
    refine (tests_any _ tcap T w1 (HTA.out.keep (fun k hk => (b1.block k (by omega)).trans (b0.block k hk))) hl).mono ?_
    rintro e w2 ⟨rfl, hW, b2⟩
    have HWn : Hid (w2.heap[w1.heap.size]? = some (.cells (tcells (lentT T)).toArray 32 (0, 0))) := hW
    clear hW
    have c0 : w2.cell? ⟨w.heap.size, 0, none⟩ = some (.int .i64 4) := (b2.cell (p := ⟨w.heap.size, 0, none⟩) (show w.heap.size < _ by omega)).trans ((b1.cell (p := ⟨w.heap.size, 0, none⟩) z0).trans o0)
    have c6 : w2.cell? ⟨w.heap.size, 6, none⟩ = some (.slice (some a) T.length tcap) := (b2.cell (p := ⟨w.heap.size, 6, none⟩) (show w.heap.size < _ by omega)).trans p6
    go_wp2_with fail
    refine (tabDeletes_any U bt ks rows (T.length + 2) (some ⟨w0.heap.size, 0, none⟩) T w2 (((hE.below b0).below b1).below b2) (HTB.out.keep (fun _ h => h) (fun k hk _ => (b2.block k (by omega)).trans ((b1.block k (by omega)).trans (b0.block k hk)))) hg hr (.inr ⟨_, rfl, TestsIn.of_cells ((b2.block _ z1).trans HA.out) (lentT_take T)⟩)).mono ?_
    rintro e w3 ⟨ev, rfl, herr, hT3, f3⟩
    have z2 := b2.size
    have z3 : w2.heap.size ≤ w3.heap.size := f3.size
    have HT3 : Hid (TabOK w3 (fun b => U b ∨ (w2.heap.size ≤ b ∧ b < w3.heap.size)) bt ks (delRows ks rows T)) := hT3
    obtain ⟨N, hN⟩ : ∃ N, delCount ks rows T = N := ⟨_, rfl⟩
    have HN : Hid (delCount ks rows T = N) := hN
    rw [hN]
    clear hN hT3
    go_wp2_with fail
    refine (lawFault_any ev _ _ w3 herr).mono ?_
    rintro e _ ⟨rfl, n, rfl⟩
    have d6 : (w3.drewN n).cell? ⟨w.heap.size, 6, none⟩ = some (.slice (some a) T.length tcap) := (World.cell?_of_block (w := w2) (a := ⟨w.heap.size, 6, none⟩) (f3.block w.heap.size (by omega) (fun h => by have := (hU _ h).2; omega))).trans c6
    have hold : ∀ k, k < w.heap.size → ¬ U k → (w3.drewN n).heap[k]? = w.heap[k]? := fun k hk hn => (f3.block k (by omega) hn).trans ((b2.block k (by omega)).trans ((b1.block k (by omega)).trans (b0.block k hk)))
    have HOLD : Hid (∀ k, k < w.heap.size → ¬ U k → (w3.drewN n).heap[k]? = w.heap[k]?) := hold
    clear hold
    go_wp2_with fail
    refine (refDeletes_any U' br ks rows tcap (some a) T (w3.drewN n) (HRF.out.keep (fun _ h => h) (fun k hk ht => HOLD.out k hk (fun h => hd k h ht))) hg hr (HCL.out _ (fun k hk hn => HOLD.out k hk (fun h => hn (hU k h).1))) htg).mono ?_
    rintro e w4 ⟨rfl, hR4, f4⟩
    rw [HN.out]
    have HR4 : Hid (RefOK w4 (fun b => U' b ∨ ((w3.drewN n).heap.size ≤ b ∧ b < w4.heap.size)) br ks (delRows ks rows T)) := hR4
    have z4 : w3.heap.size ≤ w4.heap.size := f4.size
    have zw1 : w1.heap.size < w2.heap.size := (Array.getElem?_eq_some_iff.1 HWn.out).1
    have b34 : ∀ k, w.heap.size ≤ k → k < w2.heap.size → w4.heap[k]? = w2.heap[k]? := fun k h1 h2 => (f4.block k (show k < w3.heap.size by omega) (fun h => by have := (hU' _ h).2; omega)).trans (f3.block k h2 (fun h => by have := (hU _ h).2; omega))
    have hA4 : w4.heap[w0.heap.size]? = some (.cells (tcells (lentT T)).toArray 32 (0, 0)) := (b34 _ (by omega) (by omega)).trans ((b2.block _ z1).trans HA.out)
    have hW4 : w4.heap[w1.heap.size]? = some (.cells (tcells (lentT T)).toArray 32 (0, 0)) := (b34 _ (by omega) (by omega)).trans HWn.out
    have hst := sameTests_eq w0.heap.size w1.heap.size (T.length + 2) (T.length + 2) (lentT T) w4 hA4 (TestsIn.of_cells hW4 (by rw [← tcells_length, List.take_length])) (by omega) (by rw [lentT_length]; omega) (by rw [lentT_length]; omega)
    rw [lentT_length] at hst
    clear hA4 hW4 hR4 b34
    go_wp2_with fail
    refine hst.mono ?_
    clear hst
    rintro e w5 ⟨rfl, f5⟩
    have HP : Hid (StepPost wb col s w (.returned (.bool true)) w5) := by
      have B02 : Below w0.heap.size w0 w2 := b1.trans (b2.mono (by omega))
      obtain ⟨p1, p2⟩ := app_close (S := fun b => col b = 3 + i) (w := w0) (w1 := w2) (w4 := w4) (n := n) (m := 0) (fun k h => ⟨(hU k h).1, by have := (hU k h).2; omega⟩) (fun k h => ⟨(hU' k h).1, by have := (hU' k h).2; omega⟩) hd B02 (by omega) HT3.out f3 HR4.out f4 (Below.refl _ _) f5
      exact HEND.out w5 _ (p1.keep (Nat.le_refl _) (fun k _ h => h.imp id (fun h => by omega)) (fun _ _ _ => rfl)) ((FrS.of_below b0).trans p2 (fun _ h => .inl h)) (goodR_del hr)
    generalize testFault ks T = F at *
    go_wp2
    go_ret
    exact HP.out
  · go_wp2_with fail
    refine (tests_any _ tcap T w1 (HTA.out.keep (fun k hk => (b1.block k (by omega)).trans (b0.block k hk))) hl).mono ?_
    rintro e w2 ⟨rfl, hW, b2⟩
    have HWn : Hid (w2.heap[w1.heap.size]? = some (.cells (tcells (lentT T)).toArray 32 (0, 0))) := hW
    clear hW
    have c0 : w2.cell? ⟨w.heap.size, 0, none⟩ = some (.int .i64 4) := (b2.cell (p := ⟨w.heap.size, 0, none⟩) (show w.heap.size < _ by omega)).trans ((b1.cell (p := ⟨w.heap.size, 0, none⟩) z0).trans o0)
    have c6 : w2.cell? ⟨w.heap.size, 6, none⟩ = some (.slice none T.length tcap) := (b2.cell (p := ⟨w.heap.size, 6, none⟩) (show w.heap.size < _ by omega)).trans p6
    go_wp2_with fail
    have HT0 : Hid (T = []) := by
      rcases HTA.out with h | ⟨g, zo, h, _⟩
      · exact h
      · cases h
    have hts := tabDeletes_any U bt ks rows 0 none T w2 (((hE.below b0).below b1).below b2) (HTB.out.keep (fun _ h => h) (fun k hk _ => (b2.block k (by omega)).trans ((b1.block k (by omega)).trans (b0.block k hk)))) hg hr (.inl HT0.out)
    rw [show T.length = 0 by rw [HT0.out]; rfl] at hts
    refine hts.mono ?_
    clear hts
    rintro e w3 ⟨ev, rfl, herr, hT3, f3⟩
    have z2 := b2.size
    have z3 : w2.heap.size ≤ w3.heap.size := f3.size
    have HT3 : Hid (TabOK w3 (fun b => U b ∨ (w2.heap.size ≤ b ∧ b < w3.heap.size)) bt ks (delRows ks rows T)) := hT3
    obtain ⟨N, hN⟩ : ∃ N, delCount ks rows T = N := ⟨_, rfl⟩
    have HN : Hid (delCount ks rows T = N) := hN
    rw [hN]
    clear hN hT3
    go_wp2_with fail
    refine (lawFault_any ev _ _ w3 herr).mono ?_
    rintro e _ ⟨rfl, n, rfl⟩
    have d6 : (w3.drewN n).cell? ⟨w.heap.size, 6, none⟩ = some (.slice none T.length tcap) := (World.cell?_of_block (w := w2) (a := ⟨w.heap.size, 6, none⟩) (f3.block w.heap.size (by omega) (fun h => by have := (hU _ h).2; omega))).trans c6
    have hold : ∀ k, k < w.heap.size → ¬ U k → (w3.drewN n).heap[k]? = w.heap[k]? := fun k hk hn => (f3.block k (by omega) hn).trans ((b2.block k (by omega)).trans ((b1.block k (by omega)).trans (b0.block k hk)))
    have HOLD : Hid (∀ k, k < w.heap.size → ¬ U k → (w3.drewN n).heap[k]? = w.heap[k]?) := hold
    clear hold
    go_wp2_with fail
    refine (refDeletes_any U' br ks rows tcap none T (w3.drewN n) (HRF.out.keep (fun _ h => h) (fun k hk ht => HOLD.out k hk (fun h => hd k h ht))) hg hr (HCL.out _ (fun k hk hn => HOLD.out k hk (fun h => hn (hU k h).1))) htg).mono ?_
    rintro e w4 ⟨rfl, hR4, f4⟩
    rw [HN.out]
    have HR4 : Hid (RefOK w4 (fun b => U' b ∨ ((w3.drewN n).heap.size ≤ b ∧ b < w4.heap.size)) br ks (delRows ks rows T)) := hR4
    have z4 : w3.heap.size ≤ w4.heap.size := f4.size
    have zw1 : w1.heap.size < w2.heap.size := (Array.getElem?_eq_some_iff.1 HWn.out).1
    have b34 : ∀ k, w.heap.size ≤ k → k < w2.heap.size → w4.heap[k]? = w2.heap[k]? := fun k h1 h2 => (f4.block k (show k < w3.heap.size by omega) (fun h => by have := (hU' _ h).2; omega)).trans (f3.block k h2 (fun h => by have := (hU _ h).2; omega))
    have hA4 : w4.heap[w0.heap.size]? = some (.cells (tcells (lentT T)).toArray 32 (0, 0)) := (b34 _ (by omega) (by omega)).trans ((b2.block _ z1).trans HA.out)
    have hW4 : w4.heap[w1.heap.size]? = some (.cells (tcells (lentT T)).toArray 32 (0, 0)) := (b34 _ (by omega) (by omega)).trans HWn.out
    have hst := sameTests_eq w0.heap.size w1.heap.size (T.length + 2) (T.length + 2) (lentT T) w4 hA4 (TestsIn.of_cells hW4 (by rw [← tcells_length, List.take_length])) (by omega) (by rw [lentT_length]; omega) (by rw [lentT_length]; omega)
    rw [lentT_length] at hst
    clear hA4 hW4 hR4 b34
    go_wp2_with fail
    refine hst.mono ?_
    clear hst
    rintro e w5 ⟨rfl, f5⟩
    have HP : Hid (StepPost wb col s w (.returned (.bool true)) w5) := by
      have B02 : Below w0.heap.size w0 w2 := b1.trans (b2.mono (by omega))
      obtain ⟨p1, p2⟩ := app_close (S := fun b => col b = 3 + i) (w := w0) (w1 := w2) (w4 := w4) (n := n) (m := 0) (fun k h => ⟨(hU k h).1, by have := (hU k h).2; omega⟩) (fun k h => ⟨(hU' k h).1, by have := (hU' k h).2; omega⟩) hd B02 (by omega) HT3.out f3 HR4.out f4 (Below.refl _ _) f5
      exact HEND.out w5 _ (p1.keep (Nat.le_refl _) (fun k _ h => h.imp id (fun h => by omega)) (fun _ _ _ => rfl)) ((FrS.of_below b0).trans p2 (fun _ h => .inl h)) (goodR_del hr)
    generalize testFault ks T = F at *
    go_wp2
    go_ret
    exact HP.out

end Go.Proofs.YtcconhgbefhdeaaDoor

namespace Go.Proofs.YtcconhgbefhdeaaDoor
open Go.RowKit
attribute [local go_sem ↓] Go.wp_at_zero Go.wp_at_succ

set_option maxRecDepth 100000 in
set_option maxHeartbeats 2000000 in
theorem step_fold (wb : Nat) (col : Nat → Nat) (Ts : List Tbl) (s i : Nat) (hi : i < Ts.length) (oat oc on om : Int) (sa : Option Addr) (sl sc : Nat) (ra : Option Addr) (rl rc : Nat) (ta : Option Addr) (tcap : Nat) (T : List Tst) (w : World) (hE : ErrType w) (h : WorldOK w wb col Ts s) (hT : TestsA w ta T) (htg : TstRg T) (hl : T.length ≤ 9000000) :
    Calls Tryd.prog 22 #[.pointer (some ⟨wb, 0, none⟩), .pointer (some ⟨Ts[i].bt, 0, none⟩), .pointer (some ⟨Ts[i].br, 0, none⟩), .agg #[.int .i64 5, .int .i64 oat, .int .i64 oc, .int .i64 on, .slice sa sl sc, .slice ra rl rc, .slice ta T.length tcap, .int .i64 om]] w (StepPost wb col s w) := by
  have b0 := (Below.refl w.heap.size w).alloc (Nat.le_refl _) (.cells #[.int .i64 5, .int .i64 oat, .int .i64 oc, .int .i64 on, .slice sa sl sc, .slice ra rl rc, .slice ta T.length tcap, .int .i64 om] 28)
  have hblk := heap_alloc_new w (.cells #[.int .i64 5, .int .i64 oat, .int .i64 oc, .int .i64 on, .slice sa sl sc, .slice ra rl rc, .slice ta T.length tcap, .int .i64 om] 28)
  have hS := FrS.of_below (S := fun _ => False) b0
  have hsc := scans_fold wb _ Ts s i hi oat oc on om (.slice sa sl sc) (.slice ra rl rc) ta tcap T _ (hE.below b0) (h.same (Nat.le_refl s) hS) (hT.keep (fun k hk => b0.block k hk)) htg hl
  have HS : Hid (FrS (fun _ => False) w (w.alloc (.cells #[.int .i64 5, .int .i64 oat, .int .i64 oc, .int .i64 on, .slice sa sl sc, .slice ra rl rc, .slice ta T.length tcap, .int .i64 om] 28))) := hS
  clear hS
  generalize Ts[i].bt = bt at *
  generalize Ts[i].br = br at *
  go_enter Tryd.func22, Tryd.ntmps22
  generalize hw0 : w.alloc (.cells #[.int .i64 5, .int .i64 oat, .int .i64 oc, .int .i64 on, .slice sa sl sc, .slice ra rl rc, .slice ta T.length tcap, .int .i64 om] 28) = w0 at *
  have o : ∀ j v, (#[Value.int .i64 5, .int .i64 oat, .int .i64 oc, .int .i64 on, .slice sa sl sc, .slice ra rl rc, .slice ta T.length tcap, .int .i64 om] : Array Value)[j]? = some v → w0.cell? ⟨w.heap.size, j, none⟩ = some v := fun j v hj => by rw [cell_of_row _ _ _ _ _ _ hblk]; exact hj
  have o0 := o 0 _ rfl
  have o1 := o 1 _ rfl
  have o2 := o 2 _ rfl
  have o3 := o 3 _ rfl
  have o4 := o 4 _ rfl
  have o5 := o 5 _ rfl
  have o6 := o 6 _ rfl
  have o7 := o 7 _ rfl
  clear hblk o b0
  go_wp2_with fail
  refine hsc.mono ?_
  clear hsc
  rintro e w1 hp
  have hp2 := StepPost.from HS.out hp
  obtain ⟨rfl, _⟩ := hp
  have HP : Hid (StepPost wb col s w (.returned (.bool true)) w1) := hp2
  clear hp2
  go_wp2
  go_ret
  exact HP.out

set_option maxRecDepth 100000 in
set_option maxHeartbeats 2000000 in
theorem step_delete (wb : Nat) (col : Nat → Nat) (Ts : List Tbl) (s i : Nat) (hi : i < Ts.length) (oat oc on om : Int) (sa : Option Addr) (sl sc : Nat) (ra : Option Addr) (rl rc : Nat) (ta : Option Addr) (tcap : Nat) (T : List Tst) (w : World) (hE : ErrType w) (h : WorldOK w wb col Ts s) (hT : TestsA w ta T) (hcol : T ≠ [] → ∀ a, ta = some a → col a.block = 0) (htg : TstRg T) (hl : T.length ≤ 9000000) :
    Calls Tryd.prog 22 #[.pointer (some ⟨wb, 0, none⟩), .pointer (some ⟨Ts[i].bt, 0, none⟩), .pointer (some ⟨Ts[i].br, 0, none⟩), .agg #[.int .i64 4, .int .i64 oat, .int .i64 oc, .int .i64 on, .slice sa sl sc, .slice ra rl rc, .slice ta T.length tcap, .int .i64 om]] w (StepPost wb col s w) := by
  have b0 := (Below.refl w.heap.size w).alloc (Nat.le_refl _) (.cells #[.int .i64 4, .int .i64 oat, .int .i64 oc, .int .i64 on, .slice sa sl sc, .slice ra rl rc, .slice ta T.length tcap, .int .i64 om] 28)
  have hblk := heap_alloc_new w (.cells #[.int .i64 4, .int .i64 oat, .int .i64 oc, .int .i64 on, .slice sa sl sc, .slice ra rl rc, .slice ta T.length tcap, .int .i64 om] 28)
  have hS := FrS.of_below (S := fun _ => False) b0
  have hsc := scans_delete wb _ Ts s i hi oat oc on om (.slice sa sl sc) (.slice ra rl rc) ta tcap T _ (hE.below b0) (h.same (Nat.le_refl s) hS) (hT.keep (fun k hk => b0.block k hk)) (fun h1 a h2 => by
    show (if a.block < w.heap.size then col a.block else 0) = 0
    split
    · exact hcol h1 a h2
    · rfl) htg hl
  have HS : Hid (FrS (fun _ => False) w (w.alloc (.cells #[.int .i64 4, .int .i64 oat, .int .i64 oc, .int .i64 on, .slice sa sl sc, .slice ra rl rc, .slice ta T.length tcap, .int .i64 om] 28))) := hS
  clear hS
  generalize Ts[i].bt = bt at *
  generalize Ts[i].br = br at *
  go_enter Tryd.func22, Tryd.ntmps22
  generalize hw0 : w.alloc (.cells #[.int .i64 4, .int .i64 oat, .int .i64 oc, .int .i64 on, .slice sa sl sc, .slice ra rl rc, .slice ta T.length tcap, .int .i64 om] 28) = w0 at *
  have o : ∀ j v, (#[Value.int .i64 4, .int .i64 oat, .int .i64 oc, .int .i64 on, .slice sa sl sc, .slice ra rl rc, .slice ta T.length tcap, .int .i64 om] : Array Value)[j]? = some v → w0.cell? ⟨w.heap.size, j, none⟩ = some v := fun j v hj => by rw [cell_of_row _ _ _ _ _ _ hblk]; exact hj
  have o0 := o 0 _ rfl
  have o1 := o 1 _ rfl
  have o2 := o 2 _ rfl
  have o3 := o 3 _ rfl
  have o4 := o 4 _ rfl
  have o5 := o 5 _ rfl
  have o6 := o 6 _ rfl
  have o7 := o 7 _ rfl
  clear hblk o b0
  go_wp2_with fail
  refine hsc.mono ?_
  clear hsc
  rintro e w1 hp
  have hp2 := StepPost.from HS.out hp
  obtain ⟨rfl, _⟩ := hp
  have HP : Hid (StepPost wb col s w (.returned (.bool true)) w1) := hp2
  clear hp2
  go_wp2
  go_ret
  exact HP.out

end Go.Proofs.YtcconhgbefhdeaaDoor
