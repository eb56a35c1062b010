import Derived.Test.YtcconhgbefhdeaaDoorLeaf3
namespace Go.Proofs.YtcconhgbefhdeaaDoor
open Go.RowKit
attribute [local go_sem ↓] Go.wp_at_zero Go.wp_at_succ

/-- The types of columns, as they lie in memory. -/
def KindsIn (w : World) (g : Nat) (ks : List Int) : Prop := ∀ i (h : i < ks.length), w.cell? ⟨g, i, none⟩ = some (.int .i64 ks[i])

theorem KindsIn.keep {w w' : World} {g : Nat} {ks : List Int} (h : KindsIn w g ks) (hb : w'.heap[g]? = w.heap[g]?) : KindsIn w' g ks := fun i hi =>
  (World.cell?_of_block (w := w) (a := ⟨g, _, none⟩) hb).trans (h i hi)
theorem KindsIn.lt {w : World} {g : Nat} {ks : List Int} (h : KindsIn w g ks) (hr : 0 < ks.length) : g < w.heap.size :=
  World.block_lt_of_cell? w ⟨g, 0, none⟩ (h 0 hr)

/-- A row that fits. -/
def FitsRow (ks : List Int) (r : List (Int × ByteArray)) : Prop := r.length = ks.length ∧ ∀ i (h : i < ks.length) (h' : i < r.length), fitsB ks[i] r[i].1 r[i].2 = true

set_option maxHeartbeats 400000 in
theorem check_ok (bs sc scap : Nat) (ks : List Int) (r : List (Int × ByteArray)) (g cap : Nat) (w : World) (hs : w.cell? ⟨bs, 0, none⟩ = some (.slice (some ⟨sc, 0, none⟩) ks.length scap)) (hks : KindsIn w sc ks)
    (hin : RowIn w g r) (hr : r.length ≤ 1000) (hfit : FitsRow ks r) :
    Calls Tryd.prog 65 #[.pointer (some ⟨bs, 0, none⟩), .slice (some ⟨g, 0, none⟩) r.length cap] w fun e w' => e = .returned .nilIface ∧ Below w.heap.size w w' := by
  have hbs : bs < w.heap.size := World.block_lt_of_cell? w ⟨bs, 0, none⟩ hs
  have hlen : ks.length = r.length := hfit.1.symm
  have hne : ((r.length : Int) == (r.length : Int)) = true := by simp
  rw [hlen] at hs
  go_enter Tryd.func65, Tryd.ntmps65
  go_wp2_with fail
  go_loopw [18] (fun i wr => ∃ k : Nat, k ≤ r.length ∧ i = .int .i64 k ∧ Below w.heap.size w wr) (fun i _ => r.length - (intOf i).toNat)
  case atStart => exact ⟨0, Nat.zero_le _, rfl, Below.refl _ _⟩
  case round =>
    obtain ⟨k, hk, rfl, hB⟩ := hrel
    by_cases hlt : k < r.length
    · have hg : g < w.heap.size := hin.lt (by omega)
      have hsc : sc < w.heap.size := hks.lt (by omega)
      obtain ⟨c1, c2⟩ := hin k hlt
      have hz := hB.size
      have d1 : wr.cell? ⟨g, k * 2, none⟩ = some (.int .i64 r[k].1) := (hB.cell (p := ⟨g, k * 2, none⟩) hg).trans c1
      have d2 : wr.cell? ⟨g, k * 2 + 1, none⟩ = some (.string r[k].2) := (hB.cell (p := ⟨g, k * 2 + 1, none⟩) hg).trans c2
      have d3 : wr.cell? ⟨bs, 0, none⟩ = some (.slice (some ⟨sc, 0, none⟩) r.length scap) := (hB.cell (p := ⟨bs, 0, none⟩) hbs).trans hs
      have d4 : wr.cell? ⟨sc, k, none⟩ = some (.int .i64 (ks[k]'(by omega))) := (hB.cell (p := ⟨sc, k, none⟩) hsc).trans (hks k (by omega))
      have hf : fitsB (ks[k]'(by omega)) r[k].1 r[k].2 = true := hfit.2 k (by omega) hlt
      have hk0 : (0 : Int) ≤ (k : Int) := by omega
      have hk1 : (k : Int) < (r.length : Int) := by omega
      generalize ks[k]'(by omega) = kk at d4 hf
      have n1 := World.new_ne _ _ d3
      have n2 := World.new_ne _ _ d4
      clear c1 c2
      go_wp2_with fail
      go_region_held3 (fun w' => w'.cell? ⟨wr.heap.size, 0, none⟩ = some (.int .i64 r[k].1) ∧ w'.cell? ⟨wr.heap.size, 1, none⟩ = some (.string r[k].2) ∧ w'.cell? ⟨bs, 0, none⟩ = some (.slice (some ⟨sc, 0, none⟩) r.length scap) ∧ w'.cell? ⟨sc, k, none⟩ = some (.int .i64 kk)) (go_keep)
        (first | (go_at_call 80; refine (fits_any _ _ _ _).mono ?_; rintro e w1 ⟨rfl, rfl⟩))
      go_wp2
      go_roundw
      case rel => exact ⟨k + 1, by omega, by go_num, (((hB.alloc (by omega) _).alloc (by simp; omega) _)).drew⟩
      case measure => simp [intOf]; omega
    · go_wp2
      go_ret
      exact ⟨rfl, hB⟩

end Go.Proofs.YtcconhgbefhdeaaDoor
