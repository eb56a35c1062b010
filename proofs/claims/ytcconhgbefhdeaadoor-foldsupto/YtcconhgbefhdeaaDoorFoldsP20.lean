import Derived.Test.YtcconhgbefhdeaaDoorFoldsP19
import Derived.Test.YtcconhgbefhdeaaDoorFoldsP00
import Derived.Test.YtcconhgbefhdeaaDoorFoldsP17
import Derived.Test.YtcconhgbefhdeaaDoorFoldsP14
import Derived.Test.YtcconhgbefhdeaaDoorFoldsP11
namespace Go.Proofs.YtcconhgbefhdeaaDoor
open Go.RowKit
attribute [local go_sem ↓] Go.wp_at_zero Go.wp_at_succ

theorem testFault_three' {ks : List Int} {T : List Tst} (h : (testFault ks T).1 ≠ 0) : (testFault ks T).1 = 3 := by
  unfold testFault at h ⊢
  split at h
  · rename_i h1; rw [if_pos h1]
  · rename_i h1
    rw [if_neg h1]
    split at h
    · rfl
    · split at h
      · rename_i h2; rw [if_pos h2]
      · simp at h

set_option maxRecDepth 100000 in
set_option maxHeartbeats 1000000 in
theorem refFold_bad (tb : Nat) (ks : List Int) (R : List RRow) (sv : Value) (fa : Option Addr) (fc tcap : Nat) (ta : Option Addr) (T : List Tst) (c how : Int) (w : World) (h : RefAt w 0 tb ks R sv (.slice fa R.length fc)) (hR : R.length ≤ 1000) (hk : 0 < ks.length) (hty : ∀ x ∈ ks, isTypeB x = true)
    (hrow : ∀ p ∈ R, FitsRow ks p.r ∧ RowRg p.r) (hT : TestsA w ta T) (htg : TstRg T) (hf : (foldFault ks T c how).1 ≠ 0) :
    Calls Tryd.prog 61 #[.pointer (some ⟨tb, 0, none⟩), .slice ta T.length tcap, .int .i64 c, .int .i64 how] w fun e w' => e = .returned (.tuple #[.agg #[.int .i64 0, .string ⟨#[]⟩], .int .i64 0, .int .i64 (foldFault ks T c how).1, .int .i64 (foldFault ks T c how).2]) ∧ Below w.heap.size w w' := by
  obtain ⟨sc, scap, rfl, hkin, _, _, _⟩ := h.kinds hk
  have hsc : sc < w.heap.size := hkin.lt hk
  have htb : tb < w.heap.size := (Array.getElem?_eq_some_iff.1 h.blk).1
  have hbel : ∀ o, Below w.heap.size w (w.alloc o) := fun o => (Below.refl _ _).alloc (Nat.le_refl _) o
  have c0 : w.cell? ⟨tb, 0, none⟩ = some (.slice (some ⟨sc, 0, none⟩) ks.length scap) := by rw [cell_of_row _ _ _ _ _ _ h.blk]; rfl
  by_cases h0 : (testFault ks T).1 = 0
  · have HSC : Hid (∀ o, Calls Tryd.prog 57 #[.pointer (some ⟨tb, 0, none⟩), .slice ta T.length tcap] (w.alloc o) fun e w' => ∃ v, e = .returned (.tuple #[v, .int .i64 0, .int .i64 0]) ∧
        w'.ownsRow (w.alloc o).heap.size 25 1 v (R.filter (fun p => passB ks p.r T)).length ((R.filter (fun p => passB ks p.r T)).map rrval) ∧ Below (w.alloc o).heap.size (w.alloc o) w') := fun o =>
      refScan_ok 0 tb ks R (.slice (some ⟨sc, 0, none⟩) ks.length scap) fa fc tcap ta T (w.alloc o) (h.keepOn (fun k hf => (hbel o).block k (h.footLt k hf))) hR hk hty hrow (hT.keep (fun k hk => (hbel o).block k hk)) htg h0
    have hcb : colOK ks c how = false := by
      unfold foldFault at hf
      rw [if_neg (by simpa using h0)] at hf
      cases hc : colOK ks c how
      · rfl
      · rw [hc] at hf; simp at hf
    have HFF : Hid (foldFault ks T c how = (4, c)) := by unfold foldFault Hid; rw [if_neg (by simpa using h0), hcb]; rfl
    rw [HFF.out]
    have hb' := of_decide_eq_false hcb
    have HK : Hid (KindsIn w sc ks) := hkin
    clear hf h0 h hrow hT htg hty hcb hbel hkin
    by_cases h1 : c < 0
    · clear hb'
      go_enter Tryd.func61, Tryd.ntmps61
      go_wp2_with fail
      refine (HSC.out _).mono ?_
      rintro e w1 ⟨v, rfl, _, hb1⟩
      have s1 := hb1.size
      simp at s1
      have B1 : Below w.heap.size w w1 := ((Below.refl _ _).alloc (Nat.le_refl _) _).trans (hb1.mono (by simp))
      have rb : w1.heap[w.heap.size]? = some (.cells #[.int .i64 0, .string ⟨#[]⟩] 30 (0, 0)) := (hb1.block _ (by simp)).trans (heap_alloc_new w _)
      have d0 : w1.cell? ⟨tb, 0, none⟩ = some (.slice (some ⟨sc, 0, none⟩) ks.length scap) := (B1.cell (p := ⟨tb, 0, none⟩) htb).trans c0
      have k0 : w1.cell? ⟨w.heap.size, 0, none⟩ = some (.int .i64 0) := by rw [cell_of_row _ _ _ _ _ _ rb]; rfl
      have g0 : w1.frozen? ⟨w.heap.size, 0, none⟩ = false := by simp [World.frozen?, rb]
      have k1 : ∀ u, (w1.setCell ⟨w.heap.size, 0, none⟩ u).cell? ⟨w.heap.size, 1, none⟩ = some (.string ⟨#[]⟩) := fun u => by rw [cell_of_row _ _ _ _ _ _ (heap_setCell_same _ _ _ _ _ _ rb)]; rfl
      have g1 : ∀ u, (w1.setCell ⟨w.heap.size, 0, none⟩ u).frozen? ⟨w.heap.size, 1, none⟩ = false := fun u => by simp [World.frozen?, heap_setCell_same _ _ _ _ _ _ rb]
      have HRB : Hid (w1.heap[w.heap.size]? = some (.cells #[.int .i64 0, .string ⟨#[]⟩] 30 (0, 0))) := rb
      clear rb hb1 c0
      go_wp2
      have hXX : ((w1.setCell ⟨w.heap.size, 0, none⟩ (.int .i64 0)).setCell ⟨w.heap.size, 1, none⟩ (.string ⟨#[]⟩)).heap[w.heap.size]? = some (.cells #[.int .i64 0, .string ⟨#[]⟩] 30 (0, 0)) := heap_setCell_same _ _ _ _ _ _ (heap_setCell_same _ _ _ _ _ _ HRB.out)
      have x0 : ((w1.setCell ⟨w.heap.size, 0, none⟩ (.int .i64 0)).setCell ⟨w.heap.size, 1, none⟩ (.string ⟨#[]⟩)).cell? ⟨w.heap.size, 0, none⟩ = some (.int .i64 0) := by rw [cell_of_row _ _ _ _ _ _ hXX]; rfl
      have x1 : ((w1.setCell ⟨w.heap.size, 0, none⟩ (.int .i64 0)).setCell ⟨w.heap.size, 1, none⟩ (.string ⟨#[]⟩)).cell? ⟨w.heap.size, 1, none⟩ = some (.string ⟨#[]⟩) := by rw [cell_of_row _ _ _ _ _ _ hXX]; rfl
      exact bodyPost_ret (v := .tuple #[.agg #[.int .i64 0, .string ⟨#[]⟩], .int .i64 0, .int .i64 4, .int .i64 c]) (by simp [results, Tryd.results61, go_sem, x0, x1]) rfl ⟨rfl, (B1.setCell (p := ⟨w.heap.size, 0, none⟩) (Nat.le_refl _) _).setCell (p := ⟨w.heap.size, 1, none⟩) (Nat.le_refl _) _⟩
    · by_cases h2 : (ks.length : Int) ≤ c
      · clear hb'
        go_enter Tryd.func61, Tryd.ntmps61
        go_wp2_with fail
        refine (HSC.out _).mono ?_
        rintro e w1 ⟨v, rfl, _, hb1⟩
        have s1 := hb1.size
        simp at s1
        have B1 : Below w.heap.size w w1 := ((Below.refl _ _).alloc (Nat.le_refl _) _).trans (hb1.mono (by simp))
        have rb : w1.heap[w.heap.size]? = some (.cells #[.int .i64 0, .string ⟨#[]⟩] 30 (0, 0)) := (hb1.block _ (by simp)).trans (heap_alloc_new w _)
        have d0 : w1.cell? ⟨tb, 0, none⟩ = some (.slice (some ⟨sc, 0, none⟩) ks.length scap) := (B1.cell (p := ⟨tb, 0, none⟩) htb).trans c0
        have k0 : w1.cell? ⟨w.heap.size, 0, none⟩ = some (.int .i64 0) := by rw [cell_of_row _ _ _ _ _ _ rb]; rfl
        have g0 : w1.frozen? ⟨w.heap.size, 0, none⟩ = false := by simp [World.frozen?, rb]
        have k1 : ∀ u, (w1.setCell ⟨w.heap.size, 0, none⟩ u).cell? ⟨w.heap.size, 1, none⟩ = some (.string ⟨#[]⟩) := fun u => by rw [cell_of_row _ _ _ _ _ _ (heap_setCell_same _ _ _ _ _ _ rb)]; rfl
        have g1 : ∀ u, (w1.setCell ⟨w.heap.size, 0, none⟩ u).frozen? ⟨w.heap.size, 1, none⟩ = false := fun u => by simp [World.frozen?, heap_setCell_same _ _ _ _ _ _ rb]
        have HRB : Hid (w1.heap[w.heap.size]? = some (.cells #[.int .i64 0, .string ⟨#[]⟩] 30 (0, 0))) := rb
        clear rb hb1 c0
        go_wp2
        have hXX : ((w1.setCell ⟨w.heap.size, 0, none⟩ (.int .i64 0)).setCell ⟨w.heap.size, 1, none⟩ (.string ⟨#[]⟩)).heap[w.heap.size]? = some (.cells #[.int .i64 0, .string ⟨#[]⟩] 30 (0, 0)) := heap_setCell_same _ _ _ _ _ _ (heap_setCell_same _ _ _ _ _ _ HRB.out)
        have x0 : ((w1.setCell ⟨w.heap.size, 0, none⟩ (.int .i64 0)).setCell ⟨w.heap.size, 1, none⟩ (.string ⟨#[]⟩)).cell? ⟨w.heap.size, 0, none⟩ = some (.int .i64 0) := by rw [cell_of_row _ _ _ _ _ _ hXX]; rfl
        have x1 : ((w1.setCell ⟨w.heap.size, 0, none⟩ (.int .i64 0)).setCell ⟨w.heap.size, 1, none⟩ (.string ⟨#[]⟩)).cell? ⟨w.heap.size, 1, none⟩ = some (.string ⟨#[]⟩) := by rw [cell_of_row _ _ _ _ _ _ hXX]; rfl
        exact bodyPost_ret (v := .tuple #[.agg #[.int .i64 0, .string ⟨#[]⟩], .int .i64 0, .int .i64 4, .int .i64 c]) (by simp [results, Tryd.results61, go_sem, x0, x1]) rfl ⟨rfl, (B1.setCell (p := ⟨w.heap.size, 0, none⟩) (Nat.le_refl _) _).setCell (p := ⟨w.heap.size, 1, none⟩) (Nat.le_refl _) _⟩
      · obtain ⟨n, rfl⟩ : ∃ n : Nat, c = n := ⟨c.toNat, by omega⟩
        have hn : n < ks.length := by omega
        have hc0 : (0 : Int) ≤ (n : Int) := by omega
        have hc1 : (n : Int) < (ks.length : Int) := by omega
        have hck := HK.out n hn
        have e1 : ks.getD (n : Int).toNat 0 = ks[n] := by simp [List.getD, hn]
        rw [e1] at hb'
        by_cases hh : how = 1
        · subst hh
          have hne : ¬ ks[n] = 1 := fun e => hb' ⟨by omega, by omega, by omega, by omega, fun _ => e⟩
          have hne' : (ks[n] != 1) = true := by rw [bne_iff_ne]; exact hne
          clear hb' e1
          generalize ks[n] = kd at *
          go_enter Tryd.func61, Tryd.ntmps61
          go_wp2_with fail
          refine (HSC.out _).mono ?_
          rintro e w1 ⟨v, rfl, _, hb1⟩
          have s1 := hb1.size
          simp at s1
          have B1 : Below w.heap.size w w1 := ((Below.refl _ _).alloc (Nat.le_refl _) _).trans (hb1.mono (by simp))
          have rb : w1.heap[w.heap.size]? = some (.cells #[.int .i64 0, .string ⟨#[]⟩] 30 (0, 0)) := (hb1.block _ (by simp)).trans (heap_alloc_new w _)
          have d0 : w1.cell? ⟨tb, 0, none⟩ = some (.slice (some ⟨sc, 0, none⟩) ks.length scap) := (B1.cell (p := ⟨tb, 0, none⟩) htb).trans c0
          have dk : w1.cell? ⟨sc, n, none⟩ = some (.int .i64 kd) := (B1.cell (p := ⟨sc, n, none⟩) hsc).trans hck
          have k0 : w1.cell? ⟨w.heap.size, 0, none⟩ = some (.int .i64 0) := by rw [cell_of_row _ _ _ _ _ _ rb]; rfl
          have g0 : w1.frozen? ⟨w.heap.size, 0, none⟩ = false := by simp [World.frozen?, rb]
          have k1 : ∀ u, (w1.setCell ⟨w.heap.size, 0, none⟩ u).cell? ⟨w.heap.size, 1, none⟩ = some (.string ⟨#[]⟩) := fun u => by rw [cell_of_row _ _ _ _ _ _ (heap_setCell_same _ _ _ _ _ _ rb)]; rfl
          have g1 : ∀ u, (w1.setCell ⟨w.heap.size, 0, none⟩ u).frozen? ⟨w.heap.size, 1, none⟩ = false := fun u => by simp [World.frozen?, heap_setCell_same _ _ _ _ _ _ rb]
          have HRB : Hid (w1.heap[w.heap.size]? = some (.cells #[.int .i64 0, .string ⟨#[]⟩] 30 (0, 0))) := rb
          clear rb hb1 c0
          go_wp2
          have hXX : ((w1.setCell ⟨w.heap.size, 0, none⟩ (.int .i64 0)).setCell ⟨w.heap.size, 1, none⟩ (.string ⟨#[]⟩)).heap[w.heap.size]? = some (.cells #[.int .i64 0, .string ⟨#[]⟩] 30 (0, 0)) := heap_setCell_same _ _ _ _ _ _ (heap_setCell_same _ _ _ _ _ _ HRB.out)
          have x0 : ((w1.setCell ⟨w.heap.size, 0, none⟩ (.int .i64 0)).setCell ⟨w.heap.size, 1, none⟩ (.string ⟨#[]⟩)).cell? ⟨w.heap.size, 0, none⟩ = some (.int .i64 0) := by rw [cell_of_row _ _ _ _ _ _ hXX]; rfl
          have x1 : ((w1.setCell ⟨w.heap.size, 0, none⟩ (.int .i64 0)).setCell ⟨w.heap.size, 1, none⟩ (.string ⟨#[]⟩)).cell? ⟨w.heap.size, 1, none⟩ = some (.string ⟨#[]⟩) := by rw [cell_of_row _ _ _ _ _ _ hXX]; rfl
          exact bodyPost_ret (v := .tuple #[.agg #[.int .i64 0, .string ⟨#[]⟩], .int .i64 0, .int .i64 4, .int .i64 (n : Int)]) (by simp [results, Tryd.results61, go_sem, x0, x1]) rfl ⟨rfl, (B1.setCell (p := ⟨w.heap.size, 0, none⟩) (Nat.le_refl _) _).setCell (p := ⟨w.heap.size, 1, none⟩) (Nat.le_refl _) _⟩
        · by_cases hlo : how < 1
          · clear hb' e1 hck
            go_enter Tryd.func61, Tryd.ntmps61
            go_wp2_with fail
            refine (HSC.out _).mono ?_
            rintro e w1 ⟨v, rfl, _, hb1⟩
            have s1 := hb1.size
            simp at s1
            have B1 : Below w.heap.size w w1 := ((Below.refl _ _).alloc (Nat.le_refl _) _).trans (hb1.mono (by simp))
            have rb : w1.heap[w.heap.size]? = some (.cells #[.int .i64 0, .string ⟨#[]⟩] 30 (0, 0)) := (hb1.block _ (by simp)).trans (heap_alloc_new w _)
            have d0 : w1.cell? ⟨tb, 0, none⟩ = some (.slice (some ⟨sc, 0, none⟩) ks.length scap) := (B1.cell (p := ⟨tb, 0, none⟩) htb).trans c0
            skip
            have k0 : w1.cell? ⟨w.heap.size, 0, none⟩ = some (.int .i64 0) := by rw [cell_of_row _ _ _ _ _ _ rb]; rfl
            have g0 : w1.frozen? ⟨w.heap.size, 0, none⟩ = false := by simp [World.frozen?, rb]
            have k1 : ∀ u, (w1.setCell ⟨w.heap.size, 0, none⟩ u).cell? ⟨w.heap.size, 1, none⟩ = some (.string ⟨#[]⟩) := fun u => by rw [cell_of_row _ _ _ _ _ _ (heap_setCell_same _ _ _ _ _ _ rb)]; rfl
            have g1 : ∀ u, (w1.setCell ⟨w.heap.size, 0, none⟩ u).frozen? ⟨w.heap.size, 1, none⟩ = false := fun u => by simp [World.frozen?, heap_setCell_same _ _ _ _ _ _ rb]
            have HRB : Hid (w1.heap[w.heap.size]? = some (.cells #[.int .i64 0, .string ⟨#[]⟩] 30 (0, 0))) := rb
            clear rb hb1 c0
            go_wp2
            have hXX : ((w1.setCell ⟨w.heap.size, 0, none⟩ (.int .i64 0)).setCell ⟨w.heap.size, 1, none⟩ (.string ⟨#[]⟩)).heap[w.heap.size]? = some (.cells #[.int .i64 0, .string ⟨#[]⟩] 30 (0, 0)) := heap_setCell_same _ _ _ _ _ _ (heap_setCell_same _ _ _ _ _ _ HRB.out)
            have x0 : ((w1.setCell ⟨w.heap.size, 0, none⟩ (.int .i64 0)).setCell ⟨w.heap.size, 1, none⟩ (.string ⟨#[]⟩)).cell? ⟨w.heap.size, 0, none⟩ = some (.int .i64 0) := by rw [cell_of_row _ _ _ _ _ _ hXX]; rfl
            have x1 : ((w1.setCell ⟨w.heap.size, 0, none⟩ (.int .i64 0)).setCell ⟨w.heap.size, 1, none⟩ (.string ⟨#[]⟩)).cell? ⟨w.heap.size, 1, none⟩ = some (.string ⟨#[]⟩) := by rw [cell_of_row _ _ _ _ _ _ hXX]; rfl
            exact bodyPost_ret (v := .tuple #[.agg #[.int .i64 0, .string ⟨#[]⟩], .int .i64 0, .int .i64 4, .int .i64 (n : Int)]) (by simp [results, Tryd.results61, go_sem, x0, x1]) rfl ⟨rfl, (B1.setCell (p := ⟨w.heap.size, 0, none⟩) (Nat.le_refl _) _).setCell (p := ⟨w.heap.size, 1, none⟩) (Nat.le_refl _) _⟩
          · have hhi : (3 : Int) < how := by
              by_cases h3 : how ≤ 3
              · exact absurd ⟨by omega, by omega, by omega, by omega, fun h => absurd h hh⟩ hb'
              · omega
            clear hb' e1 hck
            go_enter Tryd.func61, Tryd.ntmps61
            go_wp2_with fail
            refine (HSC.out _).mono ?_
            rintro e w1 ⟨v, rfl, _, hb1⟩
            have s1 := hb1.size
            simp at s1
            have B1 : Below w.heap.size w w1 := ((Below.refl _ _).alloc (Nat.le_refl _) _).trans (hb1.mono (by simp))
            have rb : w1.heap[w.heap.size]? = some (.cells #[.int .i64 0, .string ⟨#[]⟩] 30 (0, 0)) := (hb1.block _ (by simp)).trans (heap_alloc_new w _)
            have d0 : w1.cell? ⟨tb, 0, none⟩ = some (.slice (some ⟨sc, 0, none⟩) ks.length scap) := (B1.cell (p := ⟨tb, 0, none⟩) htb).trans c0
            skip
            have k0 : w1.cell? ⟨w.heap.size, 0, none⟩ = some (.int .i64 0) := by rw [cell_of_row _ _ _ _ _ _ rb]; rfl
            have g0 : w1.frozen? ⟨w.heap.size, 0, none⟩ = false := by simp [World.frozen?, rb]
            have k1 : ∀ u, (w1.setCell ⟨w.heap.size, 0, none⟩ u).cell? ⟨w.heap.size, 1, none⟩ = some (.string ⟨#[]⟩) := fun u => by rw [cell_of_row _ _ _ _ _ _ (heap_setCell_same _ _ _ _ _ _ rb)]; rfl
            have g1 : ∀ u, (w1.setCell ⟨w.heap.size, 0, none⟩ u).frozen? ⟨w.heap.size, 1, none⟩ = false := fun u => by simp [World.frozen?, heap_setCell_same _ _ _ _ _ _ rb]
            have HRB : Hid (w1.heap[w.heap.size]? = some (.cells #[.int .i64 0, .string ⟨#[]⟩] 30 (0, 0))) := rb
            clear rb hb1 c0
            go_wp2
            have hXX : ((w1.setCell ⟨w.heap.size, 0, none⟩ (.int .i64 0)).setCell ⟨w.heap.size, 1, none⟩ (.string ⟨#[]⟩)).heap[w.heap.size]? = some (.cells #[.int .i64 0, .string ⟨#[]⟩] 30 (0, 0)) := heap_setCell_same _ _ _ _ _ _ (heap_setCell_same _ _ _ _ _ _ HRB.out)
            have x0 : ((w1.setCell ⟨w.heap.size, 0, none⟩ (.int .i64 0)).setCell ⟨w.heap.size, 1, none⟩ (.string ⟨#[]⟩)).cell? ⟨w.heap.size, 0, none⟩ = some (.int .i64 0) := by rw [cell_of_row _ _ _ _ _ _ hXX]; rfl
            have x1 : ((w1.setCell ⟨w.heap.size, 0, none⟩ (.int .i64 0)).setCell ⟨w.heap.size, 1, none⟩ (.string ⟨#[]⟩)).cell? ⟨w.heap.size, 1, none⟩ = some (.string ⟨#[]⟩) := by rw [cell_of_row _ _ _ _ _ _ hXX]; rfl
            exact bodyPost_ret (v := .tuple #[.agg #[.int .i64 0, .string ⟨#[]⟩], .int .i64 0, .int .i64 4, .int .i64 (n : Int)]) (by simp [results, Tryd.results61, go_sem, x0, x1]) rfl ⟨rfl, (B1.setCell (p := ⟨w.heap.size, 0, none⟩) (Nat.le_refl _) _).setCell (p := ⟨w.heap.size, 1, none⟩) (Nat.le_refl _) _⟩
  · have HSC : Hid (∀ o, Calls Tryd.prog 57 #[.pointer (some ⟨tb, 0, none⟩), .slice ta T.length tcap] (w.alloc o) fun e w' => e = .returned (.tuple #[.slice none 0 0, .int .i64 (testFault ks T).1, .int .i64 (testFault ks T).2]) ∧ Below (w.alloc o).heap.size (w.alloc o) w') := fun o =>
      refScan_bad 0 tb ks R (.slice (some ⟨sc, 0, none⟩) ks.length scap) _ tcap ta T (w.alloc o) (h.keepOn (fun k hf => (hbel o).block k (h.footLt k hf))) hk hty (hT.keep (fun k hk => (hbel o).block k hk)) h0
    have h3 := testFault_three' h0
    have HFF : Hid (foldFault ks T c how = (3, (testFault ks T).2)) := by unfold foldFault Hid; rw [if_pos h0]
    rw [HFF.out]
    clear hf h hrow hT htg hty hbel hkin
    rw [h3] at HSC
    generalize (testFault ks T).2 = ft at *
    clear h3 h0
    go_enter Tryd.func61, Tryd.ntmps61
    go_wp2_with fail
    refine (HSC.out _).mono ?_
    rintro e w1 ⟨rfl, hb1⟩
    have s1 := hb1.size
    simp at s1
    have B1 : Below w.heap.size w w1 := ((Below.refl _ _).alloc (Nat.le_refl _) _).trans (hb1.mono (by simp))
    have rb : w1.heap[w.heap.size]? = some (.cells #[.int .i64 0, .string ⟨#[]⟩] 30 (0, 0)) := (hb1.block _ (by simp)).trans (heap_alloc_new w _)
    have k0 : w1.cell? ⟨w.heap.size, 0, none⟩ = some (.int .i64 0) := by rw [cell_of_row _ _ _ _ _ _ rb]; rfl
    have g0 : w1.frozen? ⟨w.heap.size, 0, none⟩ = false := by simp [World.frozen?, rb]
    have k1 : ∀ u, (w1.setCell ⟨w.heap.size, 0, none⟩ u).cell? ⟨w.heap.size, 1, none⟩ = some (.string ⟨#[]⟩) := fun u => by rw [cell_of_row _ _ _ _ _ _ (heap_setCell_same _ _ _ _ _ _ rb)]; rfl
    have g1 : ∀ u, (w1.setCell ⟨w.heap.size, 0, none⟩ u).frozen? ⟨w.heap.size, 1, none⟩ = false := fun u => by simp [World.frozen?, heap_setCell_same _ _ _ _ _ _ rb]
    have HRB : Hid (w1.heap[w.heap.size]? = some (.cells #[.int .i64 0, .string ⟨#[]⟩] 30 (0, 0))) := rb
    clear rb hb1 c0
    go_wp2
    have hXX : ((w1.setCell ⟨w.heap.size, 0, none⟩ (.int .i64 0)).setCell ⟨w.heap.size, 1, none⟩ (.string ⟨#[]⟩)).heap[w.heap.size]? = some (.cells #[.int .i64 0, .string ⟨#[]⟩] 30 (0, 0)) := heap_setCell_same _ _ _ _ _ _ (heap_setCell_same _ _ _ _ _ _ HRB.out)
    have x0 : ((w1.setCell ⟨w.heap.size, 0, none⟩ (.int .i64 0)).setCell ⟨w.heap.size, 1, none⟩ (.string ⟨#[]⟩)).cell? ⟨w.heap.size, 0, none⟩ = some (.int .i64 0) := by rw [cell_of_row _ _ _ _ _ _ hXX]; rfl
    have x1 : ((w1.setCell ⟨w.heap.size, 0, none⟩ (.int .i64 0)).setCell ⟨w.heap.size, 1, none⟩ (.string ⟨#[]⟩)).cell? ⟨w.heap.size, 1, none⟩ = some (.string ⟨#[]⟩) := by rw [cell_of_row _ _ _ _ _ _ hXX]; rfl
    exact bodyPost_ret (v := .tuple #[.agg #[.int .i64 0, .string ⟨#[]⟩], .int .i64 0, .int .i64 3, .int .i64 ft]) (by simp [results, Tryd.results61, go_sem, x0, x1]) rfl ⟨rfl, (B1.setCell (p := ⟨w.heap.size, 0, none⟩) (Nat.le_refl _) _).setCell (p := ⟨w.heap.size, 1, none⟩) (Nat.le_refl _) _⟩

end Go.Proofs.YtcconhgbefhdeaaDoor

namespace Go.Proofs.YtcconhgbefhdeaaDoor
open Go.RowKit

theorem bytes_trans : ∀ (a b c : List UInt8), Op.bytesLess a b = true → Op.bytesLess b c = true → Op.bytesLess a c = true
  | _, [], _, h, _ => by cases ‹List UInt8› <;> simp [Op.bytesLess] at h
  | _, _ :: _, [], _, h => by simp [Op.bytesLess] at h
  | [], _ :: _, _ :: _, _, _ => by simp [Op.bytesLess]
  | x :: a, y :: b, z :: c, h, h' => by
    simp only [Op.bytesLess, Bool.or_eq_true, Bool.and_eq_true, decide_eq_true_eq, beq_iff_eq] at h h' ⊢
    rcases h with h | ⟨rfl, h⟩
    · rcases h' with h' | ⟨rfl, h'⟩
      · left; rw [UInt8.lt_iff_toNat_lt] at *; omega
      · left; exact h
    · rcases h' with h' | ⟨rfl, h'⟩
      · left; exact h'
      · right; exact ⟨rfl, bytes_trans a b c h h'⟩

theorem bytes_total : ∀ (a b : List UInt8), Op.bytesLess a b = false → Op.bytesLess b a = false → a = b
  | [], [], _, _ => rfl
  | [], _ :: _, h, _ => by simp [Op.bytesLess] at h
  | _ :: _, [], _, h => by simp [Op.bytesLess] at h
  | x :: a, y :: b, h, h' => by
    simp only [Op.bytesLess, Bool.or_eq_false_iff, Bool.and_eq_false_iff, decide_eq_false_iff_not, beq_eq_false_iff_ne, ne_eq] at h h'
    have e : x = y := by
      have h1 := h.1
      have h2 := h'.1
      rw [UInt8.lt_iff_toNat_lt] at h1 h2
      exact UInt8.toNat_inj.1 (by omega)
    subst e
    have h1 : Op.bytesLess a b = false := by rcases h.2 with h | h; exact absurd rfl h; exact h
    have h2 : Op.bytesLess b a = false := by rcases h'.2 with h | h; exact absurd rfl h; exact h
    rw [bytes_total a b h1 h2]

theorem ltS_irrefl (a : ByteArray) : ltS a a = false := bytesLess_irrefl _
theorem ltS_trans {a b c : ByteArray} (h : ltS a b = true) (h' : ltS b c = true) : ltS a c = true := bytes_trans _ _ _ h h'
theorem ltS_total {a b : ByteArray} (h : ltS a b = false) (h' : ltS b a = false) : a = b := by
  have e := bytes_total _ _ h h'
  rw [ByteArray.toList_eq, ByteArray.toList_eq] at e
  exact ByteArray.ext (Array.ext' e)
theorem ltS_asymm {a b : ByteArray} (h : ltS a b = true) : ltS b a = false := by
  cases h' : ltS b a with
  | false => rfl
  | true => have := ltS_trans h h'; rw [ltS_irrefl] at this; cases this
theorem ltS_neg {a b c : ByteArray} (h : ltS a b = false) (h' : ltS b c = false) : ltS a c = false := by
  cases hac : ltS a c with
  | false => rfl
  | true =>
    cases hba : ltS b a with
    | false => rw [ltS_total h hba] at hac; rw [hac] at h'; cases h'
    | true => have := ltS_trans hba hac; rw [this] at h'; cases h'
theorem gtS_iff (a b : ByteArray) : (!ltS a b && !eqS a b) = ltS b a := by
  cases hab : ltS a b with
  | true => rw [ltS_asymm hab]; rfl
  | false =>
    cases hba : ltS b a with
    | true =>
      have : eqS a b = false := by
        cases he : eqS a b with
        | false => rfl
        | true => unfold eqS at he; unfold ltS at hba; rw [eq_of_beq he, bytesLess_irrefl] at hba; cases hba
      simp [this]
    | false => have e := ltS_total hab hba; subst e; simp [eqS]

end Go.Proofs.YtcconhgbefhdeaaDoor

namespace Go.Proofs.YtcconhgbefhdeaaDoor
open Go.RowKit

/-- A value that may stand in a column. -/
def GoodV (kd : Int) (v : Int × ByteArray) : Prop := fitsB kd v.1 v.2 = true ∧ -9223372036854775808 ≤ v.1 ∧ v.1 ≤ 9223372036854775807

theorem empty_of (s : ByteArray) (h : s.toList.isEmpty = true) : s = ⟨#[]⟩ := by
  rw [ByteArray.toList_eq] at h
  have h1 : s.data.toList = [] := by simpa using h
  cases s with
  | mk d => congr 1; exact Array.toList_inj.1 h1

theorem goodV_text {v : Int × ByteArray} (h : GoodV 3 v) : v.1 = 0 := by
  have h1 := h.1
  unfold fitsB at h1
  simp at h1
  exact h1.1
theorem goodV_plain {kd : Int} {v : Int × ByteArray} (h : GoodV kd v) (h3 : kd ≠ 3) : v.2 = ⟨#[]⟩ := by
  have h1 := h.1
  unfold fitsB at h1
  by_cases h12 : kd = 1 ∨ kd = 2
  · rw [if_pos h12] at h1; exact empty_of _ h1
  · rw [if_neg h12, if_neg h3] at h1
    by_cases h4 : kd = 4
    · rw [if_pos h4, Bool.and_eq_true] at h1; exact empty_of _ h1.1
    · rw [if_neg h4] at h1; cases h1

theorem leastG_pick (kd : Int) (a v : Int × ByteArray) (ha : GoodV kd a) (hv : GoodV kd v) : leastG kd a v = if aheadB kd v a then v else a := by
  obtain ⟨an, asx⟩ := a
  obtain ⟨vn, vs⟩ := v
  unfold leastG
  by_cases h2 : kd = 2
  · subst h2
    rw [if_pos rfl]
    have e : lessF (bitsN vn) (bitsN an) = aheadB 2 (vn, vs) (an, asx) := by
      rw [lessF_ahead vn an hv.2.1 hv.2.2 ha.2.1 ha.2.2]
      unfold aheadR aheadB
      by_cases hn : noneB vn = true ∨ noneB an = true
      · rw [if_pos (by rcases hn with h | h <;> simp [h]), if_pos ⟨rfl, hn⟩]
      · rw [if_neg (by simpa using hn), if_neg (fun h => hn h.2)]
        rw [Bool.eq_iff_iff]
        simp only [decide_eq_true_eq, orderI]
        rw [if_neg (by omega), if_pos trivial]
        split
        · simp [*]
        · split <;> simp <;> omega
    rw [e]
  · rw [if_neg h2]
    by_cases h3 : kd = 3
    · subst h3
      have a0 := goodV_text ha
      have v0 := goodV_text hv
      dsimp only at a0 v0
      subst a0 v0
      have e : aheadB 3 (0, vs) (0, asx) = ltS vs asx := by
        unfold aheadB
        rw [if_neg (fun h => by omega)]
        rw [Bool.eq_iff_iff]
        simp only [decide_eq_true_eq, orderI]
        rw [if_pos trivial]
        unfold cmpS
        cases ltS vs asx <;> cases eqS vs asx <;> simp
      rw [e]
      show (leastN 0 0, leastS asx vs) = _
      unfold leastN leastS
      cases h : ltS vs asx
      · have : (ltS asx vs || eqS asx vs) = true := by
          cases h' : ltS asx vs
          · rw [ltS_total h' h]; simp [eqS]
          · rfl
        rw [this]; rfl
      · have h1 := gtS_iff asx vs
        rw [h] at h1
        simp only [Bool.and_eq_true, Bool.not_eq_true'] at h1
        rw [h1.1, h1.2]; rfl
    · have a0 := goodV_plain ha h3
      have v0 := goodV_plain hv h3
      dsimp only at a0 v0
      subst a0 v0
      have e : aheadB kd (vn, ⟨#[]⟩) (an, ⟨#[]⟩) = decide (vn < an) := by
        unfold aheadB
        rw [if_neg (fun h => h2 h.1)]
        rw [Bool.eq_iff_iff]
        simp only [decide_eq_true_eq, orderI]
        rw [if_neg h3, if_neg h2]
        split
        · simp [*]
        · split <;> simp <;> omega
      rw [e]
      show (leastN an vn, leastS ⟨#[]⟩ ⟨#[]⟩) = _
      have es : leastS ⟨#[]⟩ ⟨#[]⟩ = ⟨#[]⟩ := by unfold leastS; split <;> rfl
      rw [es]
      unfold leastN
      by_cases h : vn < an
      · rw [if_pos (decide_eq_true h)]; congr 1; omega
      · rw [if_neg (by simpa using h)]; congr 1; omega

theorem mostG_pick (kd : Int) (a v : Int × ByteArray) (ha : GoodV kd a) (hv : GoodV kd v) : mostG kd a v = if aheadB kd a v then v else a := by
  obtain ⟨an, asx⟩ := a
  obtain ⟨vn, vs⟩ := v
  unfold mostG
  by_cases h2 : kd = 2
  · subst h2
    rw [if_pos rfl]
    have e : lessF (bitsN an) (bitsN vn) = aheadB 2 (an, asx) (vn, vs) := by
      rw [lessF_ahead an vn ha.2.1 ha.2.2 hv.2.1 hv.2.2]
      unfold aheadR aheadB
      by_cases hn : noneB an = true ∨ noneB vn = true
      · rw [if_pos (by rcases hn with h | h <;> simp [h]), if_pos ⟨rfl, hn⟩]
      · rw [if_neg (by simpa using hn), if_neg (fun h => hn h.2)]
        rw [Bool.eq_iff_iff]
        simp only [decide_eq_true_eq, orderI]
        rw [if_neg (by omega), if_pos trivial]
        split
        · simp [*]
        · split <;> simp <;> omega
    rw [e]
  · rw [if_neg h2]
    by_cases h3 : kd = 3
    · subst h3
      have a0 := goodV_text ha
      have v0 := goodV_text hv
      dsimp only at a0 v0
      subst a0 v0
      have e : aheadB 3 (0, asx) (0, vs) = ltS asx vs := by
        unfold aheadB
        rw [if_neg (fun h => by omega)]
        rw [Bool.eq_iff_iff]
        simp only [decide_eq_true_eq, orderI]
        rw [if_pos trivial]
        unfold cmpS
        cases ltS asx vs <;> cases eqS asx vs <;> simp
      rw [e]
      show (mostN 0 0, mostS asx vs) = _
      unfold mostN mostS
      cases ltS asx vs <;> rfl
    · have a0 := goodV_plain ha h3
      have v0 := goodV_plain hv h3
      dsimp only at a0 v0
      subst a0 v0
      have e : aheadB kd (an, ⟨#[]⟩) (vn, ⟨#[]⟩) = decide (an < vn) := by
        unfold aheadB
        rw [if_neg (fun h => h2 h.1)]
        rw [Bool.eq_iff_iff]
        simp only [decide_eq_true_eq, orderI]
        rw [if_neg h3, if_neg h2]
        split
        · simp [*]
        · split <;> simp <;> omega
      rw [e]
      show (mostN an vn, mostS ⟨#[]⟩ ⟨#[]⟩) = _
      have es : mostS ⟨#[]⟩ ⟨#[]⟩ = ⟨#[]⟩ := by unfold mostS; split <;> rfl
      rw [es]
      unfold mostN
      by_cases h : an < vn
      · rw [if_pos (decide_eq_true h)]; congr 1; omega
      · rw [if_neg (by simpa using h)]; congr 1; omega

/-- What the program makes of a column's values is what the document says. -/
theorem foldG_ref (kd how : Int) (hh : how = 1 ∨ how = 2 ∨ how = 3) (h1 : how = 1 → kd = 1) (l : List (Int × ByteArray)) (hl : ∀ v ∈ l, GoodV kd v) (k : Nat) (hk : k ≤ l.length) :
    foldAllG kd how (l.take k) = refAll kd how (l.take k) ∧ (0 < k → GoodV kd (refAll kd how (l.take k))) := by
  induction k with
  | zero => exact ⟨rfl, fun h => by omega⟩
  | succ k ih =>
    obtain ⟨i1, i2⟩ := ih (by omega)
    have hkl : k < l.length := by omega
    have hv := hl _ (List.getElem_mem hkl)
    have e1 : foldAllG kd how (l.take (k + 1)) = if k = 0 then l[k] else foldG kd how (foldAllG kd how (l.take k)) l[k] := by
      rw [List.take_succ_eq_append_getElem hkl, foldG_snoc]
      have : (l.take k).length = k := by simp; omega
      rw [this]
    rw [e1, refAll_take kd how l k hkl, i1]
    by_cases hk0 : k = 0
    · subst hk0
      rw [if_pos rfl]
      rcases hh with rfl | rfl | rfl
      · have hkd := h1 rfl
        subst hkd
        have v2 := goodV_plain hv (by omega)
        have e2 : refStep 1 1 (decide ((0 : Nat) = 0)) (refAll 1 1 (l.take 0)) l[0] = l[0] := by
          unfold refStep
          rw [if_pos rfl]
          show (wrap64 (0 + l[0].1), (⟨#[]⟩ : ByteArray)) = l[0]
          rw [← v2]
          have : wrap64 (0 + l[0].1) = l[0].1 := by have := hv.2; unfold wrap64; omega
          rw [this]
        rw [e2]
        exact ⟨rfl, fun _ => hv⟩
      · have e2 : refStep kd 2 (decide ((0 : Nat) = 0)) (refAll kd 2 (l.take 0)) l[0] = l[0] := by unfold refStep; simp
        rw [e2]
        exact ⟨rfl, fun _ => hv⟩
      · have e2 : refStep kd 3 (decide ((0 : Nat) = 0)) (refAll kd 3 (l.take 0)) l[0] = l[0] := by unfold refStep; simp
        rw [e2]
        exact ⟨rfl, fun _ => hv⟩
    · rw [if_neg hk0]
      have hX := i2 (by omega)
      generalize refAll kd how (l.take k) = X at *
      generalize l[k] = v at *
      have hd : decide (k = 0) = false := decide_eq_false hk0
      rw [hd]
      rcases hh with rfl | rfl | rfl
      · have hkd := h1 rfl
        subst hkd
        refine ⟨rfl, fun _ => ?_⟩
        have hf := hX.1
        refine ⟨?_, ?_, ?_⟩
        · unfold fitsB at hf ⊢
          simp only [true_or, if_true] at hf ⊢
          exact hf
        · show -9223372036854775808 ≤ wrap64 (X.1 + v.1)
          unfold wrap64; omega
        · show wrap64 (X.1 + v.1) ≤ 9223372036854775807
          unfold wrap64; omega
      · have e3 : foldG kd 2 X v = leastG kd X v := by unfold foldG; simp
        have e4 : refStep kd 2 false X v = if aheadB kd v X then v else X := by unfold refStep; simp
        rw [e3, e4, leastG_pick kd X v hX hv]
        refine ⟨rfl, fun _ => ?_⟩
        split
        · exact hv
        · exact hX
      · have e3 : foldG kd 3 X v = mostG kd X v := by unfold foldG; simp
        have e4 : refStep kd 3 false X v = if aheadB kd X v then v else X := by unfold refStep; simp
        rw [e3, e4, mostG_pick kd X v hX hv]
        refine ⟨rfl, fun _ => ?_⟩
        split
        · exact hv
        · exact hX

theorem foldG_refAll (kd how : Int) (hh : how = 1 ∨ how = 2 ∨ how = 3) (h1 : how = 1 → kd = 1) (l : List (Int × ByteArray)) (hl : ∀ v ∈ l, GoodV kd v) : foldAllG kd how l = refAll kd how l := by
  have := (foldG_ref kd how hh h1 l hl l.length (Nat.le_refl _)).1
  rwa [List.take_length] at this

end Go.Proofs.YtcconhgbefhdeaaDoor

namespace Go.Proofs.YtcconhgbefhdeaaDoor
open Go.RowKit

/-- P6: the rows that are left, and how many went. -/
def delRows (ks : List Int) (rows : List (List (Int × ByteArray))) (T : List Tst) : List (List (Int × ByteArray)) := if (testFault ks T).1 = 0 then rows.filter (fun r => !passB ks r T) else rows
def delCount (ks : List Int) (rows : List (List (Int × ByteArray))) (T : List Tst) : Nat := if (testFault ks T).1 = 0 then (rows.filter (fun r => passB ks r T)).length else 0

theorem goodR_del {ks : List Int} {rows : List (List (Int × ByteArray))} {T : List Tst} (h : GoodR ks rows) : GoodR ks (delRows ks rows T) := by
  unfold delRows
  split
  · exact ⟨Nat.le_trans (List.length_filter_le _ _) h.few, fun r hr => h.fit r (List.mem_filter.1 hr).1⟩
  · exact h

/-- What the program's Delete leaves. -/
def TabDeletes (S : Nat → Prop) (bt : Nat) (ks : List Int) (rows : List (List (Int × ByteArray))) (T : List Tst) (w : World) (e : Ending) (w' : World) : Prop :=
  ∃ ev, e = .returned (.tuple #[.int .i64 (delCount ks rows T), ev]) ∧ ErrIs w' ev (testFault ks T).1 (testFault ks T).2 ∧ TabOK w' (fun b => S b ∨ (w.heap.size ≤ b ∧ b < w'.heap.size)) bt ks (delRows ks rows T) ∧ FrS S w w'

theorem tabDeletes_any (S : Nat → Prop) (bt : Nat) (ks : List Int) (rows : List (List (Int × ByteArray))) (tcap : Nat) (ta : Option Addr) (T : List Tst) (w : World) (hgt : ErrType w) (h : TabOK w S bt ks rows) (hg : GoodK ks) (hr : GoodR ks rows) (hT : TestsAt w ta T) :
    Calls Tryd.prog 16 #[.pointer (some ⟨bt, 0, none⟩), .slice ta T.length tcap] w (TabDeletes S bt ks rows T w) := by
  obtain ⟨bs, L, sv, fv, hTa, hL, hS⟩ := h.ex
  have hlen : L.length = rows.length := by rw [← hL, List.length_map]
  by_cases h0 : (testFault ks T).1 = 0
  · have hdc : delCount ks rows T = (L.filter (fun p => passB ks p.2 T)).length := by
      unfold delCount; rw [if_pos h0, ← hL, List.filter_map, List.length_map]; rfl
    have hdr : delRows ks rows T = (L.filter (fun p => !passB ks p.2 T)).map Prod.snd := by
      unfold delRows; rw [if_pos h0, ← hL, List.filter_map]; rfl
    refine (delete_ok 0 bt bs ks L sv fv tcap ta T w hTa (by have := hr.few; omega) hg.one (fun p hp => ?_) hT (testFault_ok ks T h0)).mono ?_
    · have hm : p.2 ∈ rows := by rw [← hL]; exact List.mem_map_of_mem hp
      exact (hr.fit _ hm).1.1
    · rintro e w' ⟨fv', rfl, hT', ho, hF⟩
      refine ⟨_, by rw [hdc], .inl ⟨rfl, ?_, ?_⟩, ⟨bs, _, sv, fv', hT', hdr.symm, fun k hk => .inl ?_⟩, FrS.of_fr hF (fun i hi => .inl ?_)⟩
      · rw [testFault_zero h0]
      · rw [testFault_zero h0]
      · rcases hk with rfl | rfl | hk | hk | ⟨p, hp, rfl⟩
        · exact hS _ (.inl rfl)
        · exact hS _ (.inr (.inl rfl))
        · exact hS _ (.inr (.inr (.inl hk)))
        · rw [ho] at hk; exact hS _ (.inr (.inr (.inr (.inl hk))))
        · exact hS _ (.inr (.inr (.inr (.inr ⟨p, (List.mem_filter.1 hp).1, rfl⟩))))
      · rcases List.mem_cons.1 hi with rfl | hi
        · exact hS _ (.inr (.inl rfl))
        · exact hS _ (.inr (.inr (.inr (.inl (by simpa using hi)))))
  · refine (delete_bad 0 bt bs ks L sv fv tcap ta T w hgt hTa hg.one hT h0).mono ?_
    rintro e w' ⟨fb, rfl, h1, h2⟩
    refine ⟨_, by unfold delCount; rw [if_neg h0]; rfl, .inr ?_, ?_, FrS.of_below h2⟩
    · rw [testFault_three h0]; exact h1
    · unfold delRows; rw [if_neg h0]
      exact h.keep (fun _ h => .inl h) (fun k hk _ => h2.block k hk)

/-- What the document's Delete leaves. -/
def RefDeletes (S : Nat → Prop) (br : Nat) (ks : List Int) (rows : List (List (Int × ByteArray))) (T : List Tst) (w : World) (e : Ending) (w' : World) : Prop :=
  e = .returned (.tuple #[.int .i64 (delCount ks rows T), .int .i64 (testFault ks T).1, .int .i64 (testFault ks T).2]) ∧ RefOK w' (fun b => S b ∨ (w.heap.size ≤ b ∧ b < w'.heap.size)) br ks (delRows ks rows T) ∧ FrS S w w'

theorem refRows_form {w : World} {br : Nat} {ks : List Int} {R : List RRow} {sv fv : Value} (h : RefAt w 0 br ks R sv fv) : ∃ fa fc, fv = .slice fa R.length fc := by
  rcases h.rows.own.2 with ⟨h1, h2⟩ | ⟨gg, cp, _, h1, _⟩
  · exact ⟨none, 0, by rw [h1, h2]⟩
  · exact ⟨_, cp, h1⟩

theorem refDeletes_any (S : Nat → Prop) (br : Nat) (ks : List Int) (rows : List (List (Int × ByteArray))) (tcap : Nat) (ta : Option Addr) (T : List Tst) (w : World) (h : RefOK w S br ks rows) (hg : GoodK ks) (hr : GoodR ks rows) (hT : TestsA w ta T) (htg : TstRg T) :
    Calls Tryd.prog 60 #[.pointer (some ⟨br, 0, none⟩), .slice ta T.length tcap] w (RefDeletes S br ks rows T w) := by
  obtain ⟨R, sv, fv, hRA, hL, hS⟩ := h.ex
  have hlen : R.length = rows.length := by rw [← hL, List.length_map]
  by_cases h0 : (testFault ks T).1 = 0
  · obtain ⟨fa, fc, rfl⟩ := refRows_form hRA
    have hdc : delCount ks rows T = (R.filter (fun p => passB ks p.r T)).length := by
      unfold delCount; rw [if_pos h0, ← hL, List.filter_map, List.length_map]; rfl
    have hdr : delRows ks rows T = (R.filter (fun p => !passB ks p.r T)).map RRow.r := by
      unfold delRows; rw [if_pos h0, ← hL, List.filter_map]; rfl
    refine (refDelete_ok br ks R sv fa fc tcap ta T w hRA (by have := hr.few; omega) hg.one hg.ty (fun p hp => hr.fit _ (by rw [← hL]; exact List.mem_map_of_mem hp)) hT htg h0).mono ?_
    rintro e w' ⟨fv', rfl, hR', hnew, hF⟩
    refine ⟨by rw [hdc, testFault_zero h0], ⟨_, sv, fv', hR', hdr.symm, fun k hk => ?_⟩, FrS.of_fr hF (fun i hi => .inl ?_)⟩
    · have hlt := hR'.footLt k hk
      rcases hk with rfl | hk | hk | ⟨q, hq, rfl⟩
      · exact .inl (hS _ (.inl rfl))
      · exact .inl (hS _ (.inr (.inl hk)))
      · exact .inr ⟨hnew k hk, hlt⟩
      · exact .inl (hS _ (.inr (.inr (.inr ⟨q, (List.mem_filter.1 hq).1, rfl⟩))))
    · rw [List.mem_singleton.1 hi]; exact hS _ (.inl rfl)
  · refine (refDelete_bad 0 br ks R sv fv tcap ta T w hRA hg.one hg.ty hT h0).mono ?_
    rintro e w' ⟨rfl, h2⟩
    refine ⟨by unfold delCount; rw [if_neg h0]; rfl, ?_, FrS.of_below h2⟩
    unfold delRows; rw [if_neg h0]
    exact h.keep (fun _ h => .inl h) (fun k hk _ => h2.block k hk)

/-- P7: what comes of a Fold. -/
def foldVal (ks : List Int) (rows : List (List (Int × ByteArray))) (T : List Tst) (c how : Int) : Int × ByteArray :=
  if (foldFault ks T c how).1 = 0 then refAll (ks.getD c.toNat 0) how ((rows.filter (fun r => passB ks r T)).map (fun r => r.getD c.toNat (0, .empty))) else (0, ⟨#[]⟩)
def foldCount (ks : List Int) (rows : List (List (Int × ByteArray))) (T : List Tst) (c how : Int) : Nat := if (foldFault ks T c how).1 = 0 then (rows.filter (fun r => passB ks r T)).length else 0

theorem foldFault_zero {ks : List Int} {T : List Tst} {c how : Int} (h : (foldFault ks T c how).1 = 0) : foldFault ks T c how = (0, 0) ∧ (testFault ks T).1 = 0 ∧ ∃ n : Nat, ∃ hn : n < ks.length, c = n ∧ (how = 1 ∨ how = 2 ∨ how = 3) ∧ (how = 1 → ks[n] = 1) := by
  unfold foldFault at h ⊢
  by_cases h0 : (testFault ks T).1 ≠ 0
  · rw [if_pos h0] at h; simp at h
  · rw [if_neg h0] at h ⊢
    cases hc : colOK ks c how
    · rw [hc] at h; simp at h
    · have h' := of_decide_eq_true hc
      refine ⟨rfl, by simpa using h0, c.toNat, by omega, by omega, by omega, fun h1 => ?_⟩
      have := h'.2.2.2.2 h1
      simpa [List.getD, show c.toNat < ks.length by omega] using this

/-- What the program's Fold leaves. -/
def TabFolds (ks : List Int) (rows : List (List (Int × ByteArray))) (T : List Tst) (c how : Int) (w : World) (e : Ending) (w' : World) : Prop :=
  ∃ ev, e = .returned (.tuple #[.agg #[.int .i64 (foldVal ks rows T c how).1, .string (foldVal ks rows T c how).2], .int .i64 (foldCount ks rows T c how), ev]) ∧ ErrIs w' ev (foldFault ks T c how).1 (foldFault ks T c how).2 ∧ Below w.heap.size w w'

theorem tabFolds_any (S : Nat → Prop) (bt : Nat) (ks : List Int) (rows : List (List (Int × ByteArray))) (tcap : Nat) (ta : Option Addr) (T : List Tst) (c how : Int) (w : World) (hgt : ErrType w) (h : TabOK w S bt ks rows) (hg : GoodK ks) (hr : GoodR ks rows) (hT : TestsAt w ta T) :
    Calls Tryd.prog 17 #[.pointer (some ⟨bt, 0, none⟩), .slice ta T.length tcap, .int .i64 c, .int .i64 how] w (TabFolds ks rows T c how w) := by
  obtain ⟨bs, L, sv, fv, hTa, hL, hS⟩ := h.ex
  have hlen : L.length = rows.length := by rw [← hL, List.length_map]
  by_cases h0 : (foldFault ks T c how).1 = 0
  · obtain ⟨hz, ht0, n, hn, rfl, hh, hh1⟩ := foldFault_zero h0
    have hgv : ks.getD (n : Int).toNat 0 = ks[n] := by simp [List.getD, hn]
    refine (foldG_ok 0 bt bs ks L sv fv tcap ta T n how w hTa (by have := hr.few; omega) hg.one (fun p hp => ?_) hT (testFault_ok ks T ht0) hn hh hh1).mono ?_
    · have hm : p.2 ∈ rows := by rw [← hL]; exact List.mem_map_of_mem hp
      exact (hr.fit _ hm).1.1
    · rintro e w' ⟨rfl, hb⟩
      have hval : foldVal ks rows T n how = foldAllG ks[n] how (((L.map Prod.snd).filter (fun r => passB ks r T)).map (fun r => r.getD n (0, .empty))) := by
        unfold foldVal
        rw [if_pos h0, hgv, hL]
        refine (foldG_refAll ks[n] how hh hh1 _ (fun v hv => ?_)).symm
        obtain ⟨r, hr', rfl⟩ := List.mem_map.1 hv
        obtain ⟨hf, hrg⟩ := hr.fit r (List.mem_filter.1 hr').1
        have hnr : n < r.length := by rw [hf.1]; exact hn
        have e : r.getD n (0, .empty) = r[n] := by simp [List.getD, hnr]
        show GoodV ks[n] (r.getD n (0, .empty))
        rw [e]
        exact ⟨hf.2 n hn hnr, hrg n hnr⟩
      have hcnt : foldCount ks rows T n how = ((L.map Prod.snd).filter (fun r => passB ks r T)).length := by unfold foldCount; rw [if_pos h0, hL]
      refine ⟨_, by rw [hval, hcnt], .inl ⟨rfl, ?_, ?_⟩, hb⟩
      · rw [hz]
      · rw [hz]
  · refine (fold_bad 0 bt bs ks L sv fv tcap ta T c how w hgt hTa hg.one hT h0).mono ?_
    rintro e w' ⟨fb, rfl, h1, h2⟩
    exact ⟨_, by unfold foldVal foldCount; rw [if_neg h0, if_neg h0]; rfl, .inr h1, h2⟩

/-- What the document's Fold leaves. -/
def RefFolds (ks : List Int) (rows : List (List (Int × ByteArray))) (T : List Tst) (c how : Int) (w : World) (e : Ending) (w' : World) : Prop :=
  e = .returned (.tuple #[.agg #[.int .i64 (foldVal ks rows T c how).1, .string (foldVal ks rows T c how).2], .int .i64 (foldCount ks rows T c how), .int .i64 (foldFault ks T c how).1, .int .i64 (foldFault ks T c how).2]) ∧ Below w.heap.size w w'

theorem refFolds_any (S : Nat → Prop) (br : Nat) (ks : List Int) (rows : List (List (Int × ByteArray))) (tcap : Nat) (ta : Option Addr) (T : List Tst) (c how : Int) (w : World) (h : RefOK w S br ks rows) (hg : GoodK ks) (hr : GoodR ks rows) (hT : TestsA w ta T) (htg : TstRg T) :
    Calls Tryd.prog 61 #[.pointer (some ⟨br, 0, none⟩), .slice ta T.length tcap, .int .i64 c, .int .i64 how] w (RefFolds ks rows T c how w) := by
  obtain ⟨R, sv, fv, hRA, hL, hS⟩ := h.ex
  have hlen : R.length = rows.length := by rw [← hL, List.length_map]
  obtain ⟨fa, fc, rfl⟩ := refRows_form hRA
  have hfit : ∀ p ∈ R, FitsRow ks p.r ∧ RowRg p.r := fun p hp => hr.fit _ (by rw [← hL]; exact List.mem_map_of_mem hp)
  by_cases h0 : (foldFault ks T c how).1 = 0
  · obtain ⟨hz, ht0, n, hn, rfl, hh, hh1⟩ := foldFault_zero h0
    have hgv : ks.getD (n : Int).toNat 0 = ks[n] := by simp [List.getD, hn]
    refine (refFold_ok br ks R sv fa fc tcap ta T n how w hRA (by have := hr.few; omega) hg.one hg.ty hfit hT htg ht0 hn hh hh1 _ rfl).mono ?_
    rintro e w' ⟨rfl, hb⟩
    have hvl : (R.filter (fun p => passB ks p.r T)).map (fun p => p.r.getD n (0, .empty)) = (rows.filter (fun r => passB ks r T)).map (fun r => r.getD n (0, .empty)) := by
      rw [← hL, List.filter_map, List.map_map]; rfl
    refine ⟨?_, hb⟩
    rw [hvl, hz]
    unfold foldVal foldCount
    rw [if_pos h0, if_pos h0, hgv, List.length_map]
    rfl
  · refine (refFold_bad br ks R sv fa fc tcap ta T c how w hRA (by have := hr.few; omega) hg.one hg.ty hfit hT htg h0).mono ?_
    rintro e w' ⟨rfl, hb⟩
    exact ⟨by unfold foldVal foldCount; rw [if_neg h0, if_neg h0]; rfl, hb⟩

end Go.Proofs.YtcconhgbefhdeaaDoor
