import Derived.Test.YtcconhgbefhdeaaDoorFoldsP00
import Derived.Test.YtcconhgbefhdeaaDoorFoldsP04
import Derived.Deep.QuietTactic
import Derived.BigQuiet
import Derived.Test.YtcconhgbefhdeaaDoorFoldsP05
namespace Go.Proofs.YtcconhgbefhdeaaDoor
open Go.RowKit

attribute [local go_sem ↓] Go.wp_at_zero Go.wp_at_succ

def nanF (a : Nat) : Bool := !(Ieee.double.order a a == some .eq)
def lessF (a b : Nat) : Bool := (nanF a && !nanF b) || (Ieee.double.order a b == some .lt)

set_option maxHeartbeats 400000 in
theorem isNaN_any (a : Nat) (w : World) : Calls Tryd.prog 94 #[.float .f64 a] w fun e w' => e = .returned (.bool (nanF a)) ∧ w' = w := by
  go_enter Tryd.func94, Tryd.ntmps94
  go_wp2
  go_ret
  exact ⟨ret_bool (by simp [nanF] <;> rfl), rfl⟩

set_option maxHeartbeats 400000 in
theorem less_any (a b : Nat) (w : World) : Calls Tryd.prog 86 #[.float .f64 a, .float .f64 b] w fun e w' => e = .returned (.bool (lessF a b)) ∧ w' = w := by
  obtain ⟨L, hL⟩ : ∃ L, lessF a b = L := ⟨_, rfl⟩
  have HL : Hid (lessF a b = L) := hL
  rw [hL]
  clear hL
  cases h1 : nanF a <;> cases h2 : nanF b
  all_goals have H1 : Hid (nanF a = _) := h1
  all_goals have H2 : Hid (nanF b = _) := h2
  all_goals clear h1 h2
  all_goals go_enter Tryd.func86, Tryd.ntmps86
  all_goals go_wp2_with (go_at_call 94; refine (isNaN_any _ _).mono ?_; rintro e w' ⟨rfl, rfl⟩; first | rw [H1.out] | rw [H2.out])
  all_goals go_ret
  all_goals refine ⟨ret_bool ?_, rfl⟩
  all_goals rw [← HL.out]; unfold lessF; rw [H1.out, H2.out]; simp
  all_goals rfl

def vagg (v : Int × ByteArray) : Value := .agg #[.int .i64 v.1, .string v.2]

set_option maxHeartbeats 400000 in
theorem least_real (n1 n2 : Int) (s1 s2 : ByteArray) (w : World) :
    Calls Tryd.prog 75 #[.int .i64 2, .agg #[.int .i64 n1, .string s1], .agg #[.int .i64 n2, .string s2]] w fun e w' => e = .returned (vagg (if lessF (bitsN n2) (bitsN n1) then (n2, s2) else (n1, s1))) ∧ Below w.heap.size w w' := by
  cases h : lessF (bitsN n2) (bitsN n1)
  · have H : Hid (lessF (bitsN n2) (bitsN n1) = false) := h
    clear h
    have B0 : Below w.heap.size w (((w.alloc (.cells #[.int .i64 n1, .string s1] 30)).alloc (.cells #[.int .i64 n2, .string s2] 30)).alloc (.cells #[.int .i64 0, .string ⟨#[]⟩] 30)) := (((Below.refl _ _).alloc (Nat.le_refl _) _).alloc (by simp) _).alloc (by simp; try omega) _
    have hA : (((w.alloc (.cells #[.int .i64 n1, .string s1] 30)).alloc (.cells #[.int .i64 n2, .string s2] 30)).alloc (.cells #[.int .i64 0, .string ⟨#[]⟩] 30)).heap[w.heap.size]? = some (.cells #[.int .i64 n1, .string s1] 30 (0, 0)) := (Below.heap_alloc _ _ _ (by simp; omega)).trans ((Below.heap_alloc _ _ _ (by simp)).trans (heap_alloc_new w _))
    have hC : (((w.alloc (.cells #[.int .i64 n1, .string s1] 30)).alloc (.cells #[.int .i64 n2, .string s2] 30)).alloc (.cells #[.int .i64 0, .string ⟨#[]⟩] 30)).heap[w.heap.size + 1 + 1]? = some (.cells #[.int .i64 0, .string ⟨#[]⟩] 30 (0, 0)) := by have h := heap_alloc_new ((w.alloc (.cells #[.int .i64 n1, .string s1] 30)).alloc (.cells #[.int .i64 n2, .string s2] 30)) (.cells #[.int .i64 0, .string ⟨#[]⟩] 30); simpa using h
    have hB : (((w.alloc (.cells #[.int .i64 n1, .string s1] 30)).alloc (.cells #[.int .i64 n2, .string s2] 30)).alloc (.cells #[.int .i64 0, .string ⟨#[]⟩] 30)).heap[w.heap.size + 1]? = some (.cells #[.int .i64 n2, .string s2] 30 (0, 0)) := (Below.heap_alloc _ _ _ (by simp)).trans (new_second w _ _)
    go_enter Tryd.func75, Tryd.ntmps75
    go_wp2_with fail
    generalize ((w.alloc (.cells #[.int .i64 n1, .string s1] 30)).alloc (.cells #[.int .i64 n2, .string s2] 30)).alloc (.cells #[.int .i64 0, .string ⟨#[]⟩] 30) = w0 at *
    have c0 : w0.cell? ⟨w.heap.size, 0, none⟩ = some (.int .i64 n1) := by rw [cell_of_row _ _ _ _ _ _ hA]; rfl
    have c1 : w0.cell? ⟨w.heap.size, 1, none⟩ = some (.string s1) := by rw [cell_of_row _ _ _ _ _ _ hA]; rfl
    have c2 : w0.cell? ⟨w.heap.size + 1, 0, none⟩ = some (.int .i64 n2) := by rw [cell_of_row _ _ _ _ _ _ hB]; rfl
    have c3 : w0.cell? ⟨w.heap.size + 1, 1, none⟩ = some (.string s2) := by rw [cell_of_row _ _ _ _ _ _ hB]; rfl
    have s0 : w.heap.size + 1 < w0.heap.size := (Array.getElem?_eq_some_iff.1 hB).1
    have z2 : w.heap.size + 1 + 1 < w0.heap.size := (Array.getElem?_eq_some_iff.1 hC).1
    have hC2 : ∀ X Y, ((w0.alloc X).alloc Y).heap[w.heap.size + 1 + 1]? = some (.cells #[.int .i64 0, .string ⟨#[]⟩] 30 (0, 0)) := fun X Y => (Below.heap_alloc _ _ _ (by simp; omega)).trans ((Below.heap_alloc _ _ _ (by omega)).trans hC)
    have HC : Hid (∀ X Y, ((w0.alloc X).alloc Y).heap[w.heap.size + 1 + 1]? = some (.cells #[.int .i64 0, .string ⟨#[]⟩] 30 (0, 0))) := hC2
    have m0 := World.new_ne _ _ c0
    have m1 := World.new_ne _ _ c2
    clear hA hB hC hC2
    go_region_held3 (fun w' => w'.cell? ⟨w.heap.size, 0, none⟩ = some (.int .i64 n1) ∧ w'.cell? ⟨w.heap.size, 1, none⟩ = some (.string s1) ∧ w'.cell? ⟨w.heap.size + 1, 0, none⟩ = some (.int .i64 n2) ∧ w'.cell? ⟨w.heap.size + 1, 1, none⟩ = some (.string s2)) (go_keep)
      (first | (go_at_call 87; refine (number_any _ _ _).mono ?_; rintro e w1 ⟨rfl, rfl⟩) | (go_at_call 86; refine (less_any _ _ _).mono ?_; rintro e w1 ⟨rfl, rfl⟩; rw [H.out]))
    have hW : ((w0.alloc (.cells #[.int .i64 n2, .string s2] 30)).alloc (.cells #[.int .i64 n1, .string s1] 30)).drew.heap[w.heap.size + 1 + 1]? = some (.cells #[.int .i64 0, .string ⟨#[]⟩] 30 (0, 0)) := HC.out _ _
    have BW : Below w.heap.size w ((w0.alloc (.cells #[.int .i64 n2, .string s2] 30)).alloc (.cells #[.int .i64 n1, .string s1] 30)).drew := ((B0.alloc (by omega) _).alloc (by simp; omega) _).drew
    clear c0 c1 c2 c3 m0 m1 HC B0
    generalize ((w0.alloc (.cells #[.int .i64 n2, .string s2] 30)).alloc (.cells #[.int .i64 n1, .string s1] 30)).drew = W1 at *
    have k0 : W1.cell? ⟨w.heap.size + 1 + 1, 0, none⟩ = some (.int .i64 0) := by rw [cell_of_row _ _ _ _ _ _ hW]; rfl
    have g0 : W1.frozen? ⟨w.heap.size + 1 + 1, 0, none⟩ = false := by simp [World.frozen?, hW]
    have k1 : ∀ u, (W1.setCell ⟨w.heap.size + 1 + 1, 0, none⟩ u).cell? ⟨w.heap.size + 1 + 1, 1, none⟩ = some (.string ⟨#[]⟩) := fun u => by rw [cell_of_row _ _ _ _ _ _ (heap_setCell_same _ _ _ _ _ _ hW)]; rfl
    have g1 : ∀ u, (W1.setCell ⟨w.heap.size + 1 + 1, 0, none⟩ u).frozen? ⟨w.heap.size + 1 + 1, 1, none⟩ = false := fun u => by simp [World.frozen?, heap_setCell_same _ _ _ _ _ _ hW]
    have HW : Hid (W1.heap[w.heap.size + 1 + 1]? = some (.cells #[.int .i64 0, .string ⟨#[]⟩] 30 (0, 0))) := hW
    clear hW
    go_wp2
    have hX : ((W1.setCell ⟨w.heap.size + 1 + 1, 0, none⟩ (.int .i64 n1)).setCell ⟨w.heap.size + 1 + 1, 1, none⟩ (.string s1)).heap[w.heap.size + 1 + 1]? = some (.cells #[.int .i64 n1, .string s1] 30 (0, 0)) := heap_setCell_same _ _ _ _ _ _ (heap_setCell_same _ _ _ _ _ _ HW.out)
    have x0 : ((W1.setCell ⟨w.heap.size + 1 + 1, 0, none⟩ (.int .i64 n1)).setCell ⟨w.heap.size + 1 + 1, 1, none⟩ (.string s1)).cell? ⟨w.heap.size + 1 + 1, 0, none⟩ = some (.int .i64 n1) := by rw [cell_of_row _ _ _ _ _ _ hX]; rfl
    have x1 : ((W1.setCell ⟨w.heap.size + 1 + 1, 0, none⟩ (.int .i64 n1)).setCell ⟨w.heap.size + 1 + 1, 1, none⟩ (.string s1)).cell? ⟨w.heap.size + 1 + 1, 1, none⟩ = some (.string s1) := by rw [cell_of_row _ _ _ _ _ _ hX]; rfl
    refine bodyPost_ret (v := .agg #[.int .i64 n1, .string s1]) (by simp [results, Tryd.results75, go_sem, x0, x1]) rfl ⟨rfl, ?_⟩
    exact Below.setCell (p := ⟨w.heap.size + 1 + 1, 1, none⟩) (Below.setCell (p := ⟨w.heap.size + 1 + 1, 0, none⟩) BW (by simp; omega) _) (by simp; omega) _
  · have H : Hid (lessF (bitsN n2) (bitsN n1) = true) := h
    clear h
    have B0 : Below w.heap.size w (((w.alloc (.cells #[.int .i64 n1, .string s1] 30)).alloc (.cells #[.int .i64 n2, .string s2] 30)).alloc (.cells #[.int .i64 0, .string ⟨#[]⟩] 30)) := (((Below.refl _ _).alloc (Nat.le_refl _) _).alloc (by simp) _).alloc (by simp; try omega) _
    have hA : (((w.alloc (.cells #[.int .i64 n1, .string s1] 30)).alloc (.cells #[.int .i64 n2, .string s2] 30)).alloc (.cells #[.int .i64 0, .string ⟨#[]⟩] 30)).heap[w.heap.size]? = some (.cells #[.int .i64 n1, .string s1] 30 (0, 0)) := (Below.heap_alloc _ _ _ (by simp; omega)).trans ((Below.heap_alloc _ _ _ (by simp)).trans (heap_alloc_new w _))
    have hC : (((w.alloc (.cells #[.int .i64 n1, .string s1] 30)).alloc (.cells #[.int .i64 n2, .string s2] 30)).alloc (.cells #[.int .i64 0, .string ⟨#[]⟩] 30)).heap[w.heap.size + 1 + 1]? = some (.cells #[.int .i64 0, .string ⟨#[]⟩] 30 (0, 0)) := by have h := heap_alloc_new ((w.alloc (.cells #[.int .i64 n1, .string s1] 30)).alloc (.cells #[.int .i64 n2, .string s2] 30)) (.cells #[.int .i64 0, .string ⟨#[]⟩] 30); simpa using h
    have hB : (((w.alloc (.cells #[.int .i64 n1, .string s1] 30)).alloc (.cells #[.int .i64 n2, .string s2] 30)).alloc (.cells #[.int .i64 0, .string ⟨#[]⟩] 30)).heap[w.heap.size + 1]? = some (.cells #[.int .i64 n2, .string s2] 30 (0, 0)) := (Below.heap_alloc _ _ _ (by simp)).trans (new_second w _ _)
    go_enter Tryd.func75, Tryd.ntmps75
    go_wp2_with fail
    generalize ((w.alloc (.cells #[.int .i64 n1, .string s1] 30)).alloc (.cells #[.int .i64 n2, .string s2] 30)).alloc (.cells #[.int .i64 0, .string ⟨#[]⟩] 30) = w0 at *
    have c0 : w0.cell? ⟨w.heap.size, 0, none⟩ = some (.int .i64 n1) := by rw [cell_of_row _ _ _ _ _ _ hA]; rfl
    have c1 : w0.cell? ⟨w.heap.size, 1, none⟩ = some (.string s1) := by rw [cell_of_row _ _ _ _ _ _ hA]; rfl
    have c2 : w0.cell? ⟨w.heap.size + 1, 0, none⟩ = some (.int .i64 n2) := by rw [cell_of_row _ _ _ _ _ _ hB]; rfl
    have c3 : w0.cell? ⟨w.heap.size + 1, 1, none⟩ = some (.string s2) := by rw [cell_of_row _ _ _ _ _ _ hB]; rfl
    have s0 : w.heap.size + 1 < w0.heap.size := (Array.getElem?_eq_some_iff.1 hB).1
    have z2 : w.heap.size + 1 + 1 < w0.heap.size := (Array.getElem?_eq_some_iff.1 hC).1
    have hC2 : ∀ X Y, ((w0.alloc X).alloc Y).heap[w.heap.size + 1 + 1]? = some (.cells #[.int .i64 0, .string ⟨#[]⟩] 30 (0, 0)) := fun X Y => (Below.heap_alloc _ _ _ (by simp; omega)).trans ((Below.heap_alloc _ _ _ (by omega)).trans hC)
    have HC : Hid (∀ X Y, ((w0.alloc X).alloc Y).heap[w.heap.size + 1 + 1]? = some (.cells #[.int .i64 0, .string ⟨#[]⟩] 30 (0, 0))) := hC2
    have m0 := World.new_ne _ _ c0
    have m1 := World.new_ne _ _ c2
    clear hA hB hC hC2
    go_region_held3 (fun w' => w'.cell? ⟨w.heap.size, 0, none⟩ = some (.int .i64 n1) ∧ w'.cell? ⟨w.heap.size, 1, none⟩ = some (.string s1) ∧ w'.cell? ⟨w.heap.size + 1, 0, none⟩ = some (.int .i64 n2) ∧ w'.cell? ⟨w.heap.size + 1, 1, none⟩ = some (.string s2)) (go_keep)
      (first | (go_at_call 87; refine (number_any _ _ _).mono ?_; rintro e w1 ⟨rfl, rfl⟩) | (go_at_call 86; refine (less_any _ _ _).mono ?_; rintro e w1 ⟨rfl, rfl⟩; rw [H.out]))
    have hW : ((w0.alloc (.cells #[.int .i64 n2, .string s2] 30)).alloc (.cells #[.int .i64 n1, .string s1] 30)).drew.heap[w.heap.size + 1 + 1]? = some (.cells #[.int .i64 0, .string ⟨#[]⟩] 30 (0, 0)) := HC.out _ _
    have BW : Below w.heap.size w ((w0.alloc (.cells #[.int .i64 n2, .string s2] 30)).alloc (.cells #[.int .i64 n1, .string s1] 30)).drew := ((B0.alloc (by omega) _).alloc (by simp; omega) _).drew
    clear c0 c1 c2 c3 m0 m1 HC B0
    generalize ((w0.alloc (.cells #[.int .i64 n2, .string s2] 30)).alloc (.cells #[.int .i64 n1, .string s1] 30)).drew = W1 at *
    have k0 : W1.cell? ⟨w.heap.size + 1 + 1, 0, none⟩ = some (.int .i64 0) := by rw [cell_of_row _ _ _ _ _ _ hW]; rfl
    have g0 : W1.frozen? ⟨w.heap.size + 1 + 1, 0, none⟩ = false := by simp [World.frozen?, hW]
    have k1 : ∀ u, (W1.setCell ⟨w.heap.size + 1 + 1, 0, none⟩ u).cell? ⟨w.heap.size + 1 + 1, 1, none⟩ = some (.string ⟨#[]⟩) := fun u => by rw [cell_of_row _ _ _ _ _ _ (heap_setCell_same _ _ _ _ _ _ hW)]; rfl
    have g1 : ∀ u, (W1.setCell ⟨w.heap.size + 1 + 1, 0, none⟩ u).frozen? ⟨w.heap.size + 1 + 1, 1, none⟩ = false := fun u => by simp [World.frozen?, heap_setCell_same _ _ _ _ _ _ hW]
    have HW : Hid (W1.heap[w.heap.size + 1 + 1]? = some (.cells #[.int .i64 0, .string ⟨#[]⟩] 30 (0, 0))) := hW
    clear hW
    go_wp2
    have hX : ((W1.setCell ⟨w.heap.size + 1 + 1, 0, none⟩ (.int .i64 n2)).setCell ⟨w.heap.size + 1 + 1, 1, none⟩ (.string s2)).heap[w.heap.size + 1 + 1]? = some (.cells #[.int .i64 n2, .string s2] 30 (0, 0)) := heap_setCell_same _ _ _ _ _ _ (heap_setCell_same _ _ _ _ _ _ HW.out)
    have x0 : ((W1.setCell ⟨w.heap.size + 1 + 1, 0, none⟩ (.int .i64 n2)).setCell ⟨w.heap.size + 1 + 1, 1, none⟩ (.string s2)).cell? ⟨w.heap.size + 1 + 1, 0, none⟩ = some (.int .i64 n2) := by rw [cell_of_row _ _ _ _ _ _ hX]; rfl
    have x1 : ((W1.setCell ⟨w.heap.size + 1 + 1, 0, none⟩ (.int .i64 n2)).setCell ⟨w.heap.size + 1 + 1, 1, none⟩ (.string s2)).cell? ⟨w.heap.size + 1 + 1, 1, none⟩ = some (.string s2) := by rw [cell_of_row _ _ _ _ _ _ hX]; rfl
    refine bodyPost_ret (v := .agg #[.int .i64 n2, .string s2]) (by simp [results, Tryd.results75, go_sem, x0, x1]) rfl ⟨rfl, ?_⟩
    exact Below.setCell (p := ⟨w.heap.size + 1 + 1, 1, none⟩) (Below.setCell (p := ⟨w.heap.size + 1 + 1, 0, none⟩) BW (by simp; omega) _) (by simp; omega) _

set_option maxHeartbeats 400000 in
theorem most_real (n1 n2 : Int) (s1 s2 : ByteArray) (w : World) :
    Calls Tryd.prog 76 #[.int .i64 2, .agg #[.int .i64 n1, .string s1], .agg #[.int .i64 n2, .string s2]] w fun e w' => e = .returned (vagg (if lessF (bitsN n1) (bitsN n2) then (n2, s2) else (n1, s1))) ∧ Below w.heap.size w w' := by
  cases h : lessF (bitsN n1) (bitsN n2)
  · have H : Hid (lessF (bitsN n1) (bitsN n2) = false) := h
    clear h
    have B0 : Below w.heap.size w (((w.alloc (.cells #[.int .i64 n1, .string s1] 30)).alloc (.cells #[.int .i64 n2, .string s2] 30)).alloc (.cells #[.int .i64 0, .string ⟨#[]⟩] 30)) := (((Below.refl _ _).alloc (Nat.le_refl _) _).alloc (by simp) _).alloc (by simp; try omega) _
    have hA : (((w.alloc (.cells #[.int .i64 n1, .string s1] 30)).alloc (.cells #[.int .i64 n2, .string s2] 30)).alloc (.cells #[.int .i64 0, .string ⟨#[]⟩] 30)).heap[w.heap.size]? = some (.cells #[.int .i64 n1, .string s1] 30 (0, 0)) := (Below.heap_alloc _ _ _ (by simp; omega)).trans ((Below.heap_alloc _ _ _ (by simp)).trans (heap_alloc_new w _))
    have hC : (((w.alloc (.cells #[.int .i64 n1, .string s1] 30)).alloc (.cells #[.int .i64 n2, .string s2] 30)).alloc (.cells #[.int .i64 0, .string ⟨#[]⟩] 30)).heap[w.heap.size + 1 + 1]? = some (.cells #[.int .i64 0, .string ⟨#[]⟩] 30 (0, 0)) := by have h := heap_alloc_new ((w.alloc (.cells #[.int .i64 n1, .string s1] 30)).alloc (.cells #[.int .i64 n2, .string s2] 30)) (.cells #[.int .i64 0, .string ⟨#[]⟩] 30); simpa using h
    have hB : (((w.alloc (.cells #[.int .i64 n1, .string s1] 30)).alloc (.cells #[.int .i64 n2, .string s2] 30)).alloc (.cells #[.int .i64 0, .string ⟨#[]⟩] 30)).heap[w.heap.size + 1]? = some (.cells #[.int .i64 n2, .string s2] 30 (0, 0)) := (Below.heap_alloc _ _ _ (by simp)).trans (new_second w _ _)
    go_enter Tryd.func76, Tryd.ntmps76
    go_wp2_with fail
    generalize ((w.alloc (.cells #[.int .i64 n1, .string s1] 30)).alloc (.cells #[.int .i64 n2, .string s2] 30)).alloc (.cells #[.int .i64 0, .string ⟨#[]⟩] 30) = w0 at *
    have c0 : w0.cell? ⟨w.heap.size, 0, none⟩ = some (.int .i64 n1) := by rw [cell_of_row _ _ _ _ _ _ hA]; rfl
    have c1 : w0.cell? ⟨w.heap.size, 1, none⟩ = some (.string s1) := by rw [cell_of_row _ _ _ _ _ _ hA]; rfl
    have c2 : w0.cell? ⟨w.heap.size + 1, 0, none⟩ = some (.int .i64 n2) := by rw [cell_of_row _ _ _ _ _ _ hB]; rfl
    have c3 : w0.cell? ⟨w.heap.size + 1, 1, none⟩ = some (.string s2) := by rw [cell_of_row _ _ _ _ _ _ hB]; rfl
    have s0 : w.heap.size + 1 < w0.heap.size := (Array.getElem?_eq_some_iff.1 hB).1
    have z2 : w.heap.size + 1 + 1 < w0.heap.size := (Array.getElem?_eq_some_iff.1 hC).1
    have hC2 : ∀ X Y, ((w0.alloc X).alloc Y).heap[w.heap.size + 1 + 1]? = some (.cells #[.int .i64 0, .string ⟨#[]⟩] 30 (0, 0)) := fun X Y => (Below.heap_alloc _ _ _ (by simp; omega)).trans ((Below.heap_alloc _ _ _ (by omega)).trans hC)
    have HC : Hid (∀ X Y, ((w0.alloc X).alloc Y).heap[w.heap.size + 1 + 1]? = some (.cells #[.int .i64 0, .string ⟨#[]⟩] 30 (0, 0))) := hC2
    have m0 := World.new_ne _ _ c0
    have m1 := World.new_ne _ _ c2
    clear hA hB hC hC2
    go_region_held3 (fun w' => w'.cell? ⟨w.heap.size, 0, none⟩ = some (.int .i64 n1) ∧ w'.cell? ⟨w.heap.size, 1, none⟩ = some (.string s1) ∧ w'.cell? ⟨w.heap.size + 1, 0, none⟩ = some (.int .i64 n2) ∧ w'.cell? ⟨w.heap.size + 1, 1, none⟩ = some (.string s2)) (go_keep)
      (first | (go_at_call 87; refine (number_any _ _ _).mono ?_; rintro e w1 ⟨rfl, rfl⟩) | (go_at_call 86; refine (less_any _ _ _).mono ?_; rintro e w1 ⟨rfl, rfl⟩; rw [H.out]))
    have hW : ((w0.alloc (.cells #[.int .i64 n1, .string s1] 30)).alloc (.cells #[.int .i64 n2, .string s2] 30)).drew.heap[w.heap.size + 1 + 1]? = some (.cells #[.int .i64 0, .string ⟨#[]⟩] 30 (0, 0)) := HC.out _ _
    have BW : Below w.heap.size w ((w0.alloc (.cells #[.int .i64 n1, .string s1] 30)).alloc (.cells #[.int .i64 n2, .string s2] 30)).drew := ((B0.alloc (by omega) _).alloc (by simp; omega) _).drew
    clear c0 c1 c2 c3 m0 m1 HC B0
    generalize ((w0.alloc (.cells #[.int .i64 n1, .string s1] 30)).alloc (.cells #[.int .i64 n2, .string s2] 30)).drew = W1 at *
    have k0 : W1.cell? ⟨w.heap.size + 1 + 1, 0, none⟩ = some (.int .i64 0) := by rw [cell_of_row _ _ _ _ _ _ hW]; rfl
    have g0 : W1.frozen? ⟨w.heap.size + 1 + 1, 0, none⟩ = false := by simp [World.frozen?, hW]
    have k1 : ∀ u, (W1.setCell ⟨w.heap.size + 1 + 1, 0, none⟩ u).cell? ⟨w.heap.size + 1 + 1, 1, none⟩ = some (.string ⟨#[]⟩) := fun u => by rw [cell_of_row _ _ _ _ _ _ (heap_setCell_same _ _ _ _ _ _ hW)]; rfl
    have g1 : ∀ u, (W1.setCell ⟨w.heap.size + 1 + 1, 0, none⟩ u).frozen? ⟨w.heap.size + 1 + 1, 1, none⟩ = false := fun u => by simp [World.frozen?, heap_setCell_same _ _ _ _ _ _ hW]
    have HW : Hid (W1.heap[w.heap.size + 1 + 1]? = some (.cells #[.int .i64 0, .string ⟨#[]⟩] 30 (0, 0))) := hW
    clear hW
    go_wp2
    have hX : ((W1.setCell ⟨w.heap.size + 1 + 1, 0, none⟩ (.int .i64 n1)).setCell ⟨w.heap.size + 1 + 1, 1, none⟩ (.string s1)).heap[w.heap.size + 1 + 1]? = some (.cells #[.int .i64 n1, .string s1] 30 (0, 0)) := heap_setCell_same _ _ _ _ _ _ (heap_setCell_same _ _ _ _ _ _ HW.out)
    have x0 : ((W1.setCell ⟨w.heap.size + 1 + 1, 0, none⟩ (.int .i64 n1)).setCell ⟨w.heap.size + 1 + 1, 1, none⟩ (.string s1)).cell? ⟨w.heap.size + 1 + 1, 0, none⟩ = some (.int .i64 n1) := by rw [cell_of_row _ _ _ _ _ _ hX]; rfl
    have x1 : ((W1.setCell ⟨w.heap.size + 1 + 1, 0, none⟩ (.int .i64 n1)).setCell ⟨w.heap.size + 1 + 1, 1, none⟩ (.string s1)).cell? ⟨w.heap.size + 1 + 1, 1, none⟩ = some (.string s1) := by rw [cell_of_row _ _ _ _ _ _ hX]; rfl
    refine bodyPost_ret (v := .agg #[.int .i64 n1, .string s1]) (by simp [results, Tryd.results76, go_sem, x0, x1]) rfl ⟨rfl, ?_⟩
    exact Below.setCell (p := ⟨w.heap.size + 1 + 1, 1, none⟩) (Below.setCell (p := ⟨w.heap.size + 1 + 1, 0, none⟩) BW (by simp; omega) _) (by simp; omega) _
  · have H : Hid (lessF (bitsN n1) (bitsN n2) = true) := h
    clear h
    have B0 : Below w.heap.size w (((w.alloc (.cells #[.int .i64 n1, .string s1] 30)).alloc (.cells #[.int .i64 n2, .string s2] 30)).alloc (.cells #[.int .i64 0, .string ⟨#[]⟩] 30)) := (((Below.refl _ _).alloc (Nat.le_refl _) _).alloc (by simp) _).alloc (by simp; try omega) _
    have hA : (((w.alloc (.cells #[.int .i64 n1, .string s1] 30)).alloc (.cells #[.int .i64 n2, .string s2] 30)).alloc (.cells #[.int .i64 0, .string ⟨#[]⟩] 30)).heap[w.heap.size]? = some (.cells #[.int .i64 n1, .string s1] 30 (0, 0)) := (Below.heap_alloc _ _ _ (by simp; omega)).trans ((Below.heap_alloc _ _ _ (by simp)).trans (heap_alloc_new w _))
    have hC : (((w.alloc (.cells #[.int .i64 n1, .string s1] 30)).alloc (.cells #[.int .i64 n2, .string s2] 30)).alloc (.cells #[.int .i64 0, .string ⟨#[]⟩] 30)).heap[w.heap.size + 1 + 1]? = some (.cells #[.int .i64 0, .string ⟨#[]⟩] 30 (0, 0)) := by have h := heap_alloc_new ((w.alloc (.cells #[.int .i64 n1, .string s1] 30)).alloc (.cells #[.int .i64 n2, .string s2] 30)) (.cells #[.int .i64 0, .string ⟨#[]⟩] 30); simpa using h
    have hB : (((w.alloc (.cells #[.int .i64 n1, .string s1] 30)).alloc (.cells #[.int .i64 n2, .string s2] 30)).alloc (.cells #[.int .i64 0, .string ⟨#[]⟩] 30)).heap[w.heap.size + 1]? = some (.cells #[.int .i64 n2, .string s2] 30 (0, 0)) := (Below.heap_alloc _ _ _ (by simp)).trans (new_second w _ _)
    go_enter Tryd.func76, Tryd.ntmps76
    go_wp2_with fail
    generalize ((w.alloc (.cells #[.int .i64 n1, .string s1] 30)).alloc (.cells #[.int .i64 n2, .string s2] 30)).alloc (.cells #[.int .i64 0, .string ⟨#[]⟩] 30) = w0 at *
    have c0 : w0.cell? ⟨w.heap.size, 0, none⟩ = some (.int .i64 n1) := by rw [cell_of_row _ _ _ _ _ _ hA]; rfl
    have c1 : w0.cell? ⟨w.heap.size, 1, none⟩ = some (.string s1) := by rw [cell_of_row _ _ _ _ _ _ hA]; rfl
    have c2 : w0.cell? ⟨w.heap.size + 1, 0, none⟩ = some (.int .i64 n2) := by rw [cell_of_row _ _ _ _ _ _ hB]; rfl
    have c3 : w0.cell? ⟨w.heap.size + 1, 1, none⟩ = some (.string s2) := by rw [cell_of_row _ _ _ _ _ _ hB]; rfl
    have s0 : w.heap.size + 1 < w0.heap.size := (Array.getElem?_eq_some_iff.1 hB).1
    have z2 : w.heap.size + 1 + 1 < w0.heap.size := (Array.getElem?_eq_some_iff.1 hC).1
    have hC2 : ∀ X Y, ((w0.alloc X).alloc Y).heap[w.heap.size + 1 + 1]? = some (.cells #[.int .i64 0, .string ⟨#[]⟩] 30 (0, 0)) := fun X Y => (Below.heap_alloc _ _ _ (by simp; omega)).trans ((Below.heap_alloc _ _ _ (by omega)).trans hC)
    have HC : Hid (∀ X Y, ((w0.alloc X).alloc Y).heap[w.heap.size + 1 + 1]? = some (.cells #[.int .i64 0, .string ⟨#[]⟩] 30 (0, 0))) := hC2
    have m0 := World.new_ne _ _ c0
    have m1 := World.new_ne _ _ c2
    clear hA hB hC hC2
    go_region_held3 (fun w' => w'.cell? ⟨w.heap.size, 0, none⟩ = some (.int .i64 n1) ∧ w'.cell? ⟨w.heap.size, 1, none⟩ = some (.string s1) ∧ w'.cell? ⟨w.heap.size + 1, 0, none⟩ = some (.int .i64 n2) ∧ w'.cell? ⟨w.heap.size + 1, 1, none⟩ = some (.string s2)) (go_keep)
      (first | (go_at_call 87; refine (number_any _ _ _).mono ?_; rintro e w1 ⟨rfl, rfl⟩) | (go_at_call 86; refine (less_any _ _ _).mono ?_; rintro e w1 ⟨rfl, rfl⟩; rw [H.out]))
    have hW : ((w0.alloc (.cells #[.int .i64 n1, .string s1] 30)).alloc (.cells #[.int .i64 n2, .string s2] 30)).drew.heap[w.heap.size + 1 + 1]? = some (.cells #[.int .i64 0, .string ⟨#[]⟩] 30 (0, 0)) := HC.out _ _
    have BW : Below w.heap.size w ((w0.alloc (.cells #[.int .i64 n1, .string s1] 30)).alloc (.cells #[.int .i64 n2, .string s2] 30)).drew := ((B0.alloc (by omega) _).alloc (by simp; omega) _).drew
    clear c0 c1 c2 c3 m0 m1 HC B0
    generalize ((w0.alloc (.cells #[.int .i64 n1, .string s1] 30)).alloc (.cells #[.int .i64 n2, .string s2] 30)).drew = W1 at *
    have k0 : W1.cell? ⟨w.heap.size + 1 + 1, 0, none⟩ = some (.int .i64 0) := by rw [cell_of_row _ _ _ _ _ _ hW]; rfl
    have g0 : W1.frozen? ⟨w.heap.size + 1 + 1, 0, none⟩ = false := by simp [World.frozen?, hW]
    have k1 : ∀ u, (W1.setCell ⟨w.heap.size + 1 + 1, 0, none⟩ u).cell? ⟨w.heap.size + 1 + 1, 1, none⟩ = some (.string ⟨#[]⟩) := fun u => by rw [cell_of_row _ _ _ _ _ _ (heap_setCell_same _ _ _ _ _ _ hW)]; rfl
    have g1 : ∀ u, (W1.setCell ⟨w.heap.size + 1 + 1, 0, none⟩ u).frozen? ⟨w.heap.size + 1 + 1, 1, none⟩ = false := fun u => by simp [World.frozen?, heap_setCell_same _ _ _ _ _ _ hW]
    have HW : Hid (W1.heap[w.heap.size + 1 + 1]? = some (.cells #[.int .i64 0, .string ⟨#[]⟩] 30 (0, 0))) := hW
    clear hW
    go_wp2
    have hX : ((W1.setCell ⟨w.heap.size + 1 + 1, 0, none⟩ (.int .i64 n2)).setCell ⟨w.heap.size + 1 + 1, 1, none⟩ (.string s2)).heap[w.heap.size + 1 + 1]? = some (.cells #[.int .i64 n2, .string s2] 30 (0, 0)) := heap_setCell_same _ _ _ _ _ _ (heap_setCell_same _ _ _ _ _ _ HW.out)
    have x0 : ((W1.setCell ⟨w.heap.size + 1 + 1, 0, none⟩ (.int .i64 n2)).setCell ⟨w.heap.size + 1 + 1, 1, none⟩ (.string s2)).cell? ⟨w.heap.size + 1 + 1, 0, none⟩ = some (.int .i64 n2) := by rw [cell_of_row _ _ _ _ _ _ hX]; rfl
    have x1 : ((W1.setCell ⟨w.heap.size + 1 + 1, 0, none⟩ (.int .i64 n2)).setCell ⟨w.heap.size + 1 + 1, 1, none⟩ (.string s2)).cell? ⟨w.heap.size + 1 + 1, 1, none⟩ = some (.string s2) := by rw [cell_of_row _ _ _ _ _ _ hX]; rfl
    refine bodyPost_ret (v := .agg #[.int .i64 n2, .string s2]) (by simp [results, Tryd.results76, go_sem, x0, x1]) rfl ⟨rfl, ?_⟩
    exact Below.setCell (p := ⟨w.heap.size + 1 + 1, 1, none⟩) (Below.setCell (p := ⟨w.heap.size + 1 + 1, 0, none⟩) BW (by simp; omega) _) (by simp; omega) _

/-- Is one number with a point ahead of another one, where the least is asked? -/
def aheadR (n m : Int) : Bool := if noneB n || noneB m then noneB n && !noneB m else decide (keyI n < keyI m)

theorem nanF_none (n : Int) (n1 : -9223372036854775808 ≤ n) (n2 : n ≤ 9223372036854775807) : nanF (bitsN n) = noneB n := by
  obtain ⟨a1, _⟩ := bits_mod n n1 n2
  unfold nanF
  cases h : noneB n
  · unfold noneB at h
    simp only [decide_eq_false_iff_not] at h
    rw [order_key _ _ (by omega) (by omega), beq_some_eq]; simp
  · unfold noneB at h
    simp only [decide_eq_true_eq] at h
    rw [order_nan _ _ (.inl (by omega))]; rfl

theorem lessF_ahead (n m : Int) (n1 : -9223372036854775808 ≤ n) (n2 : n ≤ 9223372036854775807) (m1 : -9223372036854775808 ≤ m) (m2 : m ≤ 9223372036854775807) : lessF (bitsN n) (bitsN m) = aheadR n m := by
  obtain ⟨a1, _⟩ := bits_mod n n1 n2
  obtain ⟨a2, _⟩ := bits_mod m m1 m2
  unfold lessF aheadR
  rw [nanF_none n n1 n2, nanF_none m m1 m2]
  by_cases hn : noneB n = true ∨ noneB m = true
  · have e : (noneB n || noneB m) = true := by rcases hn with h | h <;> simp [h]
    rw [if_pos e]
    have hnn : 2047 * 2 ^ 52 < bitsN n % 2 ^ 63 ∨ 2047 * 2 ^ 52 < bitsN m % 2 ^ 63 := by
      unfold noneB at hn
      simp only [decide_eq_true_eq] at hn
      omega
    rw [order_nan _ _ hnn]
    simp
  · have h1 : noneB n = false := by simpa using fun h => hn (Or.inl h)
    have h2 : noneB m = false := by simpa using fun h => hn (Or.inr h)
    rw [h1, h2, if_neg (by simp)]
    unfold noneB at h1 h2
    simp only [decide_eq_false_iff_not] at h1 h2
    rw [order_key _ _ (by omega) (by omega), key_bits n n1 n2, key_bits m m1 m2, beq_some_lt]
    simp

end Go.Proofs.YtcconhgbefhdeaaDoor

namespace Go.Proofs.YtcconhgbefhdeaaDoor
open Go.RowKit

set_option maxHeartbeats 1000000 in
theorem tallyNew_ok (sc scap : Nat) (ks : List Int) (c : Nat) (how : Int) (w : World) (hks : KindsIn w sc ks) (hc : c < ks.length) (hh : how = 1 ∨ how = 2 ∨ how = 3) (h1 : how = 1 → ks[c] = 1) :
    Calls Tryd.prog 50 #[.slice (some ⟨sc, 0, none⟩) ks.length scap, .int .i64 c, .int .i64 how] w fun e w' => e = .returned (.tuple #[.pointer (some ⟨w.heap.size, 0, none⟩), .nilIface]) ∧
      w' = w.alloc (.cells #[.int .i64 ks[c], .int .i64 how, .int .i64 0, .string ⟨#[]⟩, .int .i64 0] 145) := by
  have k1 := hks c hc
  have hc0 : (0 : Int) ≤ (c : Int) := by omega
  have hc1 : (c : Int) < (ks.length : Int) := by omega
  have hcn : ¬ (c : Int) < 0 := by omega
  rcases hh with rfl | rfl | rfl
  · have h2 := h1 rfl
    rw [h2] at k1 ⊢
    go_enter Tryd.func50, Tryd.ntmps50
    go_wp2
    go_ret2
    exact ⟨rfl, rfl⟩
  · generalize ks[c] = kd at *
    go_enter Tryd.func50, Tryd.ntmps50
    go_wp2
    go_ret2
    exact ⟨rfl, rfl⟩
  · generalize ks[c] = kd at *
    go_enter Tryd.func50, Tryd.ntmps50
    go_wp2
    go_ret2
    exact ⟨rfl, rfl⟩

theorem min_str (s t : ByteArray) (w : World) : (Builtin.min_ #[9, 9] 9 #[.string s, .string t]).run Tryd.prog w = .ok (.string (if ltS s t || eqS s t then s else t)) w := by
  simp [Builtin.min_, Builtin.min2, Op.stringOp, ltS, eqS, asBool]
theorem max_str (s t : ByteArray) (w : World) : (Builtin.max_ #[9, 9] 9 #[.string s, .string t]).run Tryd.prog w = .ok (.string (if !ltS s t then s else t)) w := by
  simp [Builtin.max_, Builtin.max2, Op.stringOp, ltS, asBool]

def leastN (a b : Int) : Int := min a b
def mostN (a b : Int) : Int := max a b
def leastS (a b : ByteArray) : ByteArray := if ltS a b || eqS a b then a else b
def mostS (a b : ByteArray) : ByteArray := if !ltS a b then a else b

set_option maxHeartbeats 1000000 in
theorem least_plain (kd n1 n2 : Int) (s1 s2 : ByteArray) (w : World) (hk : ¬ kd = 2) :
    Calls Tryd.prog 75 #[.int .i64 kd, .agg #[.int .i64 n1, .string s1], .agg #[.int .i64 n2, .string s2]] w fun e w' => e = .returned (.agg #[.int .i64 (leastN n1 n2), .string (leastS s1 s2)]) ∧ Below w.heap.size w w' := by
  have hk' : (kd == 2) = false := by simpa using hk
  have hm := min_str s1 s2
  obtain ⟨S, hS⟩ : ∃ S, S = leastS s1 s2 := ⟨_, rfl⟩
  unfold leastS at hS
  rw [← hS] at hm
  have HS : Hid (S = leastS s1 s2) := hS
  clear hS hk
  go_enter Tryd.func75, Tryd.ntmps75
  go_wp2
  refine bodyPost_ret (v := .agg #[.int .i64 (min n1 n2), .string S]) (by simp [results, Tryd.results75, go_sem]) rfl ⟨by rw [HS.out]; rfl, ?_⟩
  exact (((Below.refl _ _).alloc (Nat.le_refl _) _).alloc (by simp) _).alloc (by simp; omega) _

set_option maxHeartbeats 1000000 in
theorem most_plain (kd n1 n2 : Int) (s1 s2 : ByteArray) (w : World) (hk : ¬ kd = 2) :
    Calls Tryd.prog 76 #[.int .i64 kd, .agg #[.int .i64 n1, .string s1], .agg #[.int .i64 n2, .string s2]] w fun e w' => e = .returned (.agg #[.int .i64 (mostN n1 n2), .string (mostS s1 s2)]) ∧ Below w.heap.size w w' := by
  have hk' : (kd == 2) = false := by simpa using hk
  have hm := max_str s1 s2
  obtain ⟨S, hS⟩ : ∃ S, S = mostS s1 s2 := ⟨_, rfl⟩
  unfold mostS at hS
  rw [← hS] at hm
  have HS : Hid (S = mostS s1 s2) := hS
  clear hS hk
  go_enter Tryd.func76, Tryd.ntmps76
  go_wp2
  refine bodyPost_ret (v := .agg #[.int .i64 (max n1 n2), .string S]) (by simp [results, Tryd.results76, go_sem]) rfl ⟨by rw [HS.out]; rfl, ?_⟩
  exact (((Below.refl _ _).alloc (Nat.le_refl _) _).alloc (by simp) _).alloc (by simp; omega) _

/-- The least and the most of two values of a column, those of a Real too. -/
def leastG (kd : Int) (a v : Int × ByteArray) : Int × ByteArray := if kd = 2 then (if lessF (bitsN v.1) (bitsN a.1) then v else a) else (leastN a.1 v.1, leastS a.2 v.2)
def mostG (kd : Int) (a v : Int × ByteArray) : Int × ByteArray := if kd = 2 then (if lessF (bitsN a.1) (bitsN v.1) then v else a) else (mostN a.1 v.1, mostS a.2 v.2)

theorem least_g (kd : Int) (a v : Int × ByteArray) (w : World) : Calls Tryd.prog 75 #[.int .i64 kd, .agg #[.int .i64 a.1, .string a.2], .agg #[.int .i64 v.1, .string v.2]] w fun e w' => e = .returned (vagg (leastG kd a v)) ∧ Below w.heap.size w w' := by
  by_cases hk : kd = 2
  · subst hk
    have e : leastG 2 a v = if lessF (bitsN v.1) (bitsN a.1) then v else a := if_pos rfl
    rw [e]
    exact least_real a.1 v.1 a.2 v.2 w
  · have e : leastG kd a v = (leastN a.1 v.1, leastS a.2 v.2) := if_neg hk
    rw [e]
    exact least_plain kd a.1 v.1 a.2 v.2 w hk
theorem most_g (kd : Int) (a v : Int × ByteArray) (w : World) : Calls Tryd.prog 76 #[.int .i64 kd, .agg #[.int .i64 a.1, .string a.2], .agg #[.int .i64 v.1, .string v.2]] w fun e w' => e = .returned (vagg (mostG kd a v)) ∧ Below w.heap.size w w' := by
  by_cases hk : kd = 2
  · subst hk
    have e : mostG 2 a v = if lessF (bitsN a.1) (bitsN v.1) then v else a := if_pos rfl
    rw [e]
    exact most_real a.1 v.1 a.2 v.2 w
  · have e : mostG kd a v = (mostN a.1 v.1, mostS a.2 v.2) := if_neg hk
    rw [e]
    exact most_plain kd a.1 v.1 a.2 v.2 w hk

/-- What comes of one more value of a column, behind the first. -/
def foldG (kd how : Int) (a v : Int × ByteArray) : Int × ByteArray :=
  if how = 1 then (wrap64 (a.1 + v.1), a.2) else if how = 2 then leastG kd a v else mostG kd a v

/-- What comes of one more value, behind the first. -/
def foldV (how : Int) (a v : Int × ByteArray) : Int × ByteArray :=
  if how = 1 then (wrap64 (a.1 + v.1), a.2) else if how = 2 then (leastN a.1 v.1, leastS a.2 v.2) else (mostN a.1 v.1, mostS a.2 v.2)

def TallyAt (w : World) (tb : Nat) (kd how : Int) (a : Int × ByteArray) (n : Nat) : Prop := w.heap[tb]? = some (.cells #[.int .i64 kd, .int .i64 how, .int .i64 a.1, .string a.2, .int .i64 n] 145 (0, 0))

set_option maxRecDepth 100000 in
set_option maxHeartbeats 1000000 in
theorem tallyAdd_ok (tb : Nat) (kd how : Int) (a v : Int × ByteArray) (n : Nat) (w : World) (h : TallyAt w tb kd how a n) (hh : how = 1 ∨ how = 2 ∨ how = 3) (hn : n ≤ 1000) :
    Calls Tryd.prog 51 #[.pointer (some ⟨tb, 0, none⟩), .agg #[.int .i64 v.1, .string v.2]] w fun e w' => e = .returned (.tuple #[]) ∧ Fr [tb] w w' ∧ TallyAt w' tb kd how (if n = 0 then v else foldG kd how a v) (n + 1) := by
  obtain ⟨an, asx⟩ := a
  obtain ⟨vn, vs⟩ := v
  have htb : tb < w.heap.size := (Array.getElem?_eq_some_iff.1 h).1
  have hne : ¬ w.heap.size = tb := by omega
  have HT : Hid (TallyAt w tb kd how (an, asx) n) := h
  have c0 : ∀ o, (w.alloc o).cell? ⟨tb, 0, none⟩ = some (.int .i64 kd) := fun o => (cell_alloc w o _ _ htb).trans (by rw [cell_of_row _ _ _ _ _ _ h]; rfl)
  have c1 : ∀ o, (w.alloc o).cell? ⟨tb, 1, none⟩ = some (.int .i64 how) := fun o => (cell_alloc w o _ _ htb).trans (by rw [cell_of_row _ _ _ _ _ _ h]; rfl)
  have c2 : ∀ o, (w.alloc o).cell? ⟨tb, 2, none⟩ = some (.int .i64 an) := fun o => (cell_alloc w o _ _ htb).trans (by rw [cell_of_row _ _ _ _ _ _ h]; rfl)
  have c3 : ∀ o, (w.alloc o).cell? ⟨tb, 3, none⟩ = some (.string asx) := fun o => (cell_alloc w o _ _ htb).trans (by rw [cell_of_row _ _ _ _ _ _ h]; rfl)
  have c4 : ∀ o, (w.alloc o).cell? ⟨tb, 4, none⟩ = some (.int .i64 n) := fun o => (cell_alloc w o _ _ htb).trans (by rw [cell_of_row _ _ _ _ _ _ h]; rfl)
  have f4 : ∀ o, (w.alloc o).frozen? ⟨tb, 4, none⟩ = false := fun o => (frozen_alloc w o _ _ htb).trans (by simp [World.frozen?, show w.heap[tb]? = _ from h])
  have hset : ∀ u, (w.setCell ⟨tb, 4, none⟩ u).heap[tb]? = some (.cells #[.int .i64 kd, .int .i64 how, .int .i64 an, .string asx, u] 145 (0, 0)) := fun u => heap_setCell_same _ _ _ _ _ _ h
  have hsz : ∀ u, (w.setCell ⟨tb, 4, none⟩ u).heap.size = w.heap.size := fun u => by simp [World.setCell]
  have hal : ∀ u o, ((w.setCell ⟨tb, 4, none⟩ u).alloc o).heap[tb]? = some (.cells #[.int .i64 kd, .int .i64 how, .int .i64 an, .string asx, u] 145 (0, 0)) := fun u o => (Below.heap_alloc _ _ _ (by rw [hsz]; exact htb)).trans (hset u)
  have d0 : ∀ u o, ((w.setCell ⟨tb, 4, none⟩ u).alloc o).cell? ⟨tb, 0, none⟩ = some (.int .i64 kd) := fun u o => by rw [cell_of_row _ _ _ _ _ _ (hal u o)]; rfl
  have d1 : ∀ u o, ((w.setCell ⟨tb, 4, none⟩ u).alloc o).cell? ⟨tb, 1, none⟩ = some (.int .i64 how) := fun u o => by rw [cell_of_row _ _ _ _ _ _ (hal u o)]; rfl
  have d2 : ∀ u o, ((w.setCell ⟨tb, 4, none⟩ u).alloc o).cell? ⟨tb, 2, none⟩ = some (.int .i64 an) := fun u o => by rw [cell_of_row _ _ _ _ _ _ (hal u o)]; rfl
  have d3 : ∀ u o, ((w.setCell ⟨tb, 4, none⟩ u).alloc o).cell? ⟨tb, 3, none⟩ = some (.string asx) := fun u o => by rw [cell_of_row _ _ _ _ _ _ (hal u o)]; rfl
  have d4 : ∀ u o, ((w.setCell ⟨tb, 4, none⟩ u).alloc o).cell? ⟨tb, 4, none⟩ = some (u) := fun u o => by rw [cell_of_row _ _ _ _ _ _ (hal u o)]; rfl
  have g2 : ∀ u o, ((w.setCell ⟨tb, 4, none⟩ u).alloc o).frozen? ⟨tb, 2, none⟩ = false := fun u o => by simp [World.frozen?, hal u o]
  have g3 : ∀ u o, ((w.setCell ⟨tb, 4, none⟩ u).alloc o).frozen? ⟨tb, 3, none⟩ = false := fun u o => by simp [World.frozen?, hal u o]
  have hal2 : ∀ u v o, (((w.setCell ⟨tb, 4, none⟩ u).setCell ⟨tb, 2, none⟩ v).alloc o).heap[tb]? = some (.cells #[.int .i64 kd, .int .i64 how, v, .string asx, u] 145 (0, 0)) := fun u v o => (Below.heap_alloc _ _ _ (by simp [World.setCell]; exact htb)).trans (heap_setCell_same _ _ _ _ _ _ (hset u))
  have e3 : ∀ u v o, (((w.setCell ⟨tb, 4, none⟩ u).setCell ⟨tb, 2, none⟩ v).alloc o).cell? ⟨tb, 3, none⟩ = some (.string asx) := fun u v o => by rw [cell_of_row _ _ _ _ _ _ (hal2 u v o)]; rfl
  have k3 : ∀ u v o, (((w.setCell ⟨tb, 4, none⟩ u).setCell ⟨tb, 2, none⟩ v).alloc o).frozen? ⟨tb, 3, none⟩ = false := fun u v o => by simp [World.frozen?, hal2 u v o]
  have HAL : Hid (∀ u o, ((w.setCell ⟨tb, 4, none⟩ u).alloc o).heap[tb]? = some (.cells #[.int .i64 kd, .int .i64 how, .int .i64 an, .string asx, u] 145 (0, 0))) := hal
  have HFR : Hid (∀ u o, Fr [tb] w ((w.setCell ⟨tb, 4, none⟩ u).alloc o)) := fun u o => ((Fr.refl _ _).setCell (p := ⟨tb, 4, none⟩) (.inl (by simp)) _).alloc _
  have HSZ : Hid (∀ u, (w.setCell ⟨tb, 4, none⟩ u).heap.size = w.heap.size) := hsz
  have hw1 : IntKind.i64.wrap ((n : Int) + 1) = (n : Int) + 1 := by rw [IntKind.wrap_i64]; omega
  clear h hset hsz hal hal2
  by_cases h0 : n = 0
  · subst h0
    go_enter Tryd.func51, Tryd.ntmps51
    go_wp2
    go_end0
    refine ⟨rfl, ((Fr.setCell (p := ⟨tb, 3, none⟩) (Fr.setCell (p := ⟨tb, 2, none⟩) ((Fr.refl _ _).setCell (p := ⟨tb, 4, none⟩) (.inl (by simp)) _) (.inl (by simp)) _) (.inl (by simp)) _)).alloc _, ?_⟩
    exact (Below.heap_alloc _ _ _ (by simp [World.setCell]; exact htb)).trans (heap_setCell_same _ _ _ _ _ _ (heap_setCell_same _ _ _ _ _ _ (heap_setCell_same _ _ _ _ _ _ HT.out)))
  · have h1 : ¬ (n : Int) + 1 = 1 := by omega
    have h2 : ((n : Int) + 1 == 1) = false := by simpa using h1
    have hmx : Tryd.prog.follows .mixedOrders = true := by kernel_rfl
    rcases hh with rfl | rfl | rfl
    · go_enter Tryd.func51, Tryd.ntmps51
      go_wp2
      go_region
      all_goals
        go_wp2
        go_end0
        refine ⟨rfl, (((Fr.setCell (p := ⟨tb, 2, none⟩) ((Fr.refl _ _).setCell (p := ⟨tb, 4, none⟩) (.inl (by simp)) _) (.inl (by simp)) _)).alloc _).drew, ?_⟩
        exact (Below.heap_alloc _ _ _ (by simp [World.setCell]; exact htb)).trans (heap_setCell_same _ _ _ _ _ _ (heap_setCell_same _ _ _ _ _ _ HT.out))
    · obtain ⟨⟨gn, gs⟩, hg⟩ : ∃ g, leastG kd (an, asx) (vn, vs) = g := ⟨_, rfl⟩
      have HC : Hid (∀ W : World, Calls Tryd.prog 75 #[.int .i64 kd, .agg #[.int .i64 an, .string asx], .agg #[.int .i64 vn, .string vs]] W fun e w' => e = .returned (.agg #[.int .i64 gn, .string gs]) ∧ Below W.heap.size W w') := fun W => by
        have h := least_g kd (an, asx) (vn, vs) W
        rw [hg] at h
        exact h
      have HG : Hid ((if n = 0 then (vn, vs) else foldG kd 2 (an, asx) (vn, vs)) = (gn, gs)) := by
        unfold Hid
        rw [if_neg h0]
        exact hg
      rw [HG.out]
      clear hg
      go_enter Tryd.func51, Tryd.ntmps51
      go_wp2
      go_region_with
        (first
          | (go_at_call 75; refine (HC.out _).mono ?_; rintro e w1 ⟨rfl, hb1⟩
             have hblk : w1.heap[tb]? = some (.cells #[.int .i64 kd, .int .i64 2, .int .i64 an, .string asx, .int .i64 ((n : Int) + 1)] 145 (0, 0)) := (hb1.block _ (by simp [World.setCell]; omega)).trans (HAL.out _ _)
             have q2 : w1.cell? ⟨tb, 2, none⟩ = some (.int .i64 an) := by rw [cell_of_row _ _ _ _ _ _ hblk]; rfl
             have q3 : w1.frozen? ⟨tb, 2, none⟩ = false := by simp [World.frozen?, hblk]
             have q4 : ∀ v, (w1.setCell ⟨tb, 2, none⟩ v).cell? ⟨tb, 3, none⟩ = some (.string asx) := fun v => by rw [cell_of_row _ _ _ _ _ _ (heap_setCell_same _ _ _ _ _ _ hblk)]; rfl
             have q5 : ∀ v, (w1.setCell ⟨tb, 2, none⟩ v).frozen? ⟨tb, 3, none⟩ = false := fun v => by simp [World.frozen?, heap_setCell_same _ _ _ _ _ _ hblk]
             have HBK : Hid (w1.heap[tb]? = some (.cells #[.int .i64 kd, .int .i64 2, .int .i64 an, .string asx, .int .i64 ((n : Int) + 1)] 145 (0, 0))) := hblk
             clear hblk))
      all_goals
        go_wp2
        go_end0
        refine ⟨rfl, ?_, ?_⟩
        · refine Fr.setCell (p := ⟨tb, 3, none⟩) (Fr.setCell (p := ⟨tb, 2, none⟩) ?_ (.inl (by simp)) _) (.inl (by simp)) _
          exact ((HFR.out _ _).drew).then hb1
        · skip
          exact heap_setCell_same _ _ _ _ _ _ (heap_setCell_same _ _ _ _ _ _ HBK.out)
    · obtain ⟨⟨gn, gs⟩, hg⟩ : ∃ g, mostG kd (an, asx) (vn, vs) = g := ⟨_, rfl⟩
      have HC : Hid (∀ W : World, Calls Tryd.prog 76 #[.int .i64 kd, .agg #[.int .i64 an, .string asx], .agg #[.int .i64 vn, .string vs]] W fun e w' => e = .returned (.agg #[.int .i64 gn, .string gs]) ∧ Below W.heap.size W w') := fun W => by
        have h := most_g kd (an, asx) (vn, vs) W
        rw [hg] at h
        exact h
      have HG : Hid ((if n = 0 then (vn, vs) else foldG kd 3 (an, asx) (vn, vs)) = (gn, gs)) := by
        unfold Hid
        rw [if_neg h0]
        exact hg
      rw [HG.out]
      clear hg
      go_enter Tryd.func51, Tryd.ntmps51
      go_wp2
      go_region_with
        (first
          | (go_at_call 76; refine (HC.out _).mono ?_; rintro e w1 ⟨rfl, hb1⟩
             have hblk : w1.heap[tb]? = some (.cells #[.int .i64 kd, .int .i64 3, .int .i64 an, .string asx, .int .i64 ((n : Int) + 1)] 145 (0, 0)) := (hb1.block _ (by simp [World.setCell]; omega)).trans (HAL.out _ _)
             have q2 : w1.cell? ⟨tb, 2, none⟩ = some (.int .i64 an) := by rw [cell_of_row _ _ _ _ _ _ hblk]; rfl
             have q3 : w1.frozen? ⟨tb, 2, none⟩ = false := by simp [World.frozen?, hblk]
             have q4 : ∀ v, (w1.setCell ⟨tb, 2, none⟩ v).cell? ⟨tb, 3, none⟩ = some (.string asx) := fun v => by rw [cell_of_row _ _ _ _ _ _ (heap_setCell_same _ _ _ _ _ _ hblk)]; rfl
             have q5 : ∀ v, (w1.setCell ⟨tb, 2, none⟩ v).frozen? ⟨tb, 3, none⟩ = false := fun v => by simp [World.frozen?, heap_setCell_same _ _ _ _ _ _ hblk]
             have HBK : Hid (w1.heap[tb]? = some (.cells #[.int .i64 kd, .int .i64 3, .int .i64 an, .string asx, .int .i64 ((n : Int) + 1)] 145 (0, 0))) := hblk
             clear hblk))
      all_goals
        go_wp2
        go_end0
        refine ⟨rfl, ?_, ?_⟩
        · refine Fr.setCell (p := ⟨tb, 3, none⟩) (Fr.setCell (p := ⟨tb, 2, none⟩) ?_ (.inl (by simp)) _) (.inl (by simp)) _
          exact ((HFR.out _ _).drew).then hb1
        · skip
          exact heap_setCell_same _ _ _ _ _ _ (heap_setCell_same _ _ _ _ _ _ HBK.out)

end Go.Proofs.YtcconhgbefhdeaaDoor
