import Derived.Test.YtcconhgbefhdeaaDoorSFold
import Derived.Test.YtcconhgbefhdeaaDoorTScan
namespace Go.Proofs.YtcconhgbefhdeaaDoor
open Go.RowKit

set_option maxRecDepth 100000 in
set_option maxHeartbeats 1000000 in
theorem fold_ok (base bt bs : Nat) (ks : List Int) (L : List (Nat × List (Int × ByteArray))) (sv fv : Value) (tcap : Nat) (ta : Option Addr) (T : List Tst) (c : Nat) (how : Int) (w : World) (h : TableAt w base bt bs ks L sv fv)
    (hL : L.length ≤ 1000) (hk : 0 < ks.length) (hrow : ∀ p ∈ L, p.2.length = ks.length) (hT : TestsAt w ta T) (hv : ValidT ks T) (hc : c < ks.length) (hh : how = 1 ∨ how = 2 ∨ how = 3) (hh1 : how = 1 → ks[c] = 1) (hr : ¬ ks[c] = 2) :
    Calls Tryd.prog 17 #[.pointer (some ⟨bt, 0, none⟩), .slice ta T.length tcap, .int .i64 c, .int .i64 how] w fun e w' =>
      e = .returned (.tuple #[.agg #[.int .i64 (foldAll how (((L.map Prod.snd).filter (fun r => passB ks r T)).map (fun r => r.getD c (0, .empty)))).1, .string (foldAll how (((L.map Prod.snd).filter (fun r => passB ks r T)).map (fun r => r.getD c (0, .empty)))).2], .int .i64 ((L.map Prod.snd).filter (fun r => passB ks r T)).length, .nilIface]) ∧ Below w.heap.size w w' := by
  obtain ⟨fa, fc, rfl⟩ := h.sto.form
  obtain ⟨fav, hfa⟩ : ∃ fav, foldAll how (((L.map Prod.snd).filter (fun r => passB ks r T)).map (fun r => r.getD c (0, .empty))) = fav := ⟨_, rfl⟩
  obtain ⟨nn, hnn⟩ : ∃ nn, ((L.map Prod.snd).filter (fun r => passB ks r T)).length = nn := ⟨_, rfl⟩
  have hbt : bt < w.heap.size := (Array.getElem?_eq_some_iff.1 h.tab).1
  have BA : ∀ o, Below w.heap.size w (w.alloc o) := fun o => (Below.refl _ _).alloc (Nat.le_refl _) _
  have c0 : ∀ o, (w.alloc o).cell? ⟨bt, 0, none⟩ = some (.pointer (some ⟨bs, 0, none⟩)) := fun o => (cell_alloc w o _ _ hbt).trans (by rw [cell_of_row _ _ _ _ _ _ h.tab]; rfl)
  have HS : Hid (∀ o, StoreAt (w.alloc o) base bs ks L sv (.slice fa L.length fc)) := fun o => h.sto.below (BA o)
  have HT : Hid (∀ o, TestsAt (w.alloc o) ta T) := fun o => hT.keep (fun j hj => (BA o).block j hj)
  have HFA : Hid (foldAll how (((L.map Prod.snd).filter (fun r => passB ks r T)).map (fun r => r.getD c (0, .empty))) = fav) := hfa
  have HNN : Hid (((L.map Prod.snd).filter (fun r => passB ks r T)).length = nn) := hnn
  have hmx : Tryd.prog.follows .mixedOrders = true := by kernel_rfl
  rw [hfa, hnn]
  clear h hT BA hfa hnn
  go_enter Tryd.func17, Tryd.ntmps17
  go_wp2_with fail
  refine (storeFold_ok base bs ks L sv fa fc tcap ta T c how _ (HS.out _) hL hk hrow (HT.out _) hv hc hh hh1 hr).mono ?_
  rintro e w1 ⟨rfl, hb1⟩
  rw [HFA.out, HNN.out]
  have s1 := hb1.size
  simp at s1
  have RB : Hid (w1.heap[w.heap.size]? = some (.cells #[.int .i64 0, .string ⟨#[]⟩] 30 (0, 0))) := (hb1.block _ (by simp)).trans (heap_alloc_new w _)
  have B1 : Below w.heap.size w w1 := ((Below.refl _ _).alloc (Nat.le_refl _) _).trans (hb1.mono (by simp))
  clear hb1 c0
  go_wp2_with fail
  go_region_with
    (first
      | (go_at_call 30; refine (faultIn_nil _).mono ?_; rintro e w2 ⟨rfl, hb2⟩
         have s2 := hb2.size
         have hrb : w2.heap[w.heap.size]? = some (.cells #[.int .i64 0, .string ⟨#[]⟩] 30 (0, 0)) := (hb2.block _ (by simp; omega)).trans ((Below.heap_alloc _ _ _ (by omega)).trans RB.out)
         have hvb : w2.heap[w1.heap.size]? = some (.cells #[.int .i64 fav.1, .string fav.2] 30 (0, 0)) := (hb2.block _ (by simp)).trans (heap_alloc_new w1 _)
         have r0 : w2.cell? ⟨w.heap.size, 0, none⟩ = some (.int .i64 0) := by rw [cell_of_row _ _ _ _ _ _ hrb]; rfl
         have g0 : w2.frozen? ⟨w.heap.size, 0, none⟩ = false := by simp [World.frozen?, hrb]
         have r1 : ∀ u, (w2.setCell ⟨w.heap.size, 0, none⟩ u).cell? ⟨w.heap.size, 1, none⟩ = some (.string ⟨#[]⟩) := fun u => by rw [cell_of_row _ _ _ _ _ _ (heap_setCell_same _ _ _ _ _ _ hrb)]; rfl
         have g1 : ∀ u, (w2.setCell ⟨w.heap.size, 0, none⟩ u).frozen? ⟨w.heap.size, 1, none⟩ = false := fun u => by simp [World.frozen?, heap_setCell_same _ _ _ _ _ _ hrb]
         have q0 : w2.cell? ⟨w1.heap.size, 0, none⟩ = some (.int .i64 fav.1) := by rw [cell_of_row _ _ _ _ _ _ hvb]; rfl
         have q1 : w2.cell? ⟨w1.heap.size, 1, none⟩ = some (.string fav.2) := by rw [cell_of_row _ _ _ _ _ _ hvb]; rfl
         have HRB : Hid (w2.heap[w.heap.size]? = some (.cells #[.int .i64 0, .string ⟨#[]⟩] 30 (0, 0))) := hrb
         clear hrb hvb))
  all_goals
    go_wp2
    have hX : ((w2.setCell ⟨w.heap.size, 0, none⟩ (.int .i64 fav.1)).setCell ⟨w.heap.size, 1, none⟩ (.string fav.2)).heap[w.heap.size]? = some (.cells #[.int .i64 fav.1, .string fav.2] 30 (0, 0)) := heap_setCell_same _ _ _ _ _ _ (heap_setCell_same _ _ _ _ _ _ HRB.out)
    have x0 : ((w2.setCell ⟨w.heap.size, 0, none⟩ (.int .i64 fav.1)).setCell ⟨w.heap.size, 1, none⟩ (.string fav.2)).cell? ⟨w.heap.size, 0, none⟩ = some (.int .i64 fav.1) := by rw [cell_of_row _ _ _ _ _ _ hX]; rfl
    have x1 : ((w2.setCell ⟨w.heap.size, 0, none⟩ (.int .i64 fav.1)).setCell ⟨w.heap.size, 1, none⟩ (.string fav.2)).cell? ⟨w.heap.size, 1, none⟩ = some (.string fav.2) := by rw [cell_of_row _ _ _ _ _ _ hX]; rfl
    refine bodyPost_ret (v := .tuple #[.agg #[.int .i64 fav.1, .string fav.2], .int .i64 nn, .nilIface]) (by simp [results, Tryd.results17, go_sem, x0, x1]) rfl ⟨rfl, ?_⟩
    exact Below.setCell (p := ⟨w.heap.size, 1, none⟩) (Below.setCell (p := ⟨w.heap.size, 0, none⟩) (((B1.alloc (by omega) _).drew).trans (hb2.mono (by simp; omega))) (by simp) _) (by simp) _

end Go.Proofs.YtcconhgbefhdeaaDoor
