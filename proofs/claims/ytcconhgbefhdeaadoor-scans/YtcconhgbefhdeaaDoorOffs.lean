import Derived.Test.YtcconhgbefhdeaaDoorAgree
import Derived.Test.YtcconhgbefhdeaaDoorAppErr
import Derived.Test.YtcconhgbefhdeaaDoorSieveNew
namespace Go.Proofs.YtcconhgbefhdeaaDoor
open Go.RowKit

/-- Lists that were handed in, from some place of their block on. -/
def KindsO (w : World) (g zo : Nat) (ks : List Int) : Prop := ∀ i (h : i < ks.length), w.cell? ⟨g, zo + i, none⟩ = some (.int .i64 ks[i])
def RowO (w : World) (g zo : Nat) (r : List (Int × ByteArray)) : Prop := ∀ i (h : i < r.length), w.cell? ⟨g, zo + i * 2, none⟩ = some (.int .i64 r[i].1) ∧ w.cell? ⟨g, zo + i * 2 + 1, none⟩ = some (.string r[i].2)
def TestsO (w : World) (g zo : Nat) (T : List Tst) : Prop :=
  ∀ i (h : i < T.length), w.cell? ⟨g, zo + i * 4, none⟩ = some (.int .i64 T[i].dO) ∧ w.cell? ⟨g, zo + i * 4 + 1, none⟩ = some (.int .i64 T[i].col) ∧ w.cell? ⟨g, zo + i * 4 + 2, none⟩ = some (.int .i64 T[i].n) ∧ w.cell? ⟨g, zo + i * 4 + 3, none⟩ = some (.string T[i].s)

def KindsA (w : World) (sa : Option Addr) (ks : List Int) : Prop := ks = [] ∨ ∃ g zo, sa = some ⟨g, zo, none⟩ ∧ KindsO w g zo ks
def RowA (w : World) (sa : Option Addr) (r : List (Int × ByteArray)) : Prop := r = [] ∨ ∃ g zo, sa = some ⟨g, zo, none⟩ ∧ RowO w g zo r
def TestsA (w : World) (sa : Option Addr) (T : List Tst) : Prop := T = [] ∨ ∃ g zo, sa = some ⟨g, zo, none⟩ ∧ TestsO w g zo T

theorem KindsO.lt {w : World} {g zo : Nat} {ks : List Int} (h : KindsO w g zo ks) (hk : 0 < ks.length) : g < w.heap.size := World.block_lt_of_cell? w ⟨g, zo + 0, none⟩ (h 0 hk)
theorem RowO.lt {w : World} {g zo : Nat} {r : List (Int × ByteArray)} (h : RowO w g zo r) (hk : 0 < r.length) : g < w.heap.size := World.block_lt_of_cell? w ⟨g, zo + 0 * 2, none⟩ (h 0 hk).1
theorem TestsO.lt {w : World} {g zo : Nat} {T : List Tst} (h : TestsO w g zo T) (hk : 0 < T.length) : g < w.heap.size := World.block_lt_of_cell? w ⟨g, zo + 0 * 4, none⟩ (h 0 hk).1

theorem KindsO.keep {w w' : World} {g zo : Nat} {ks : List Int} (h : KindsO w g zo ks) (hb : w'.heap[g]? = w.heap[g]?) : KindsO w' g zo ks := fun i hi => (World.cell?_of_block (w := w) (a := ⟨g, _, none⟩) hb).trans (h i hi)
theorem RowO.keep {w w' : World} {g zo : Nat} {r : List (Int × ByteArray)} (h : RowO w g zo r) (hb : w'.heap[g]? = w.heap[g]?) : RowO w' g zo r := fun i hi =>
  ⟨(World.cell?_of_block (w := w) (a := ⟨g, _, none⟩) hb).trans (h i hi).1, (World.cell?_of_block (w := w) (a := ⟨g, _, none⟩) hb).trans (h i hi).2⟩
theorem TestsO.keep {w w' : World} {g zo : Nat} {T : List Tst} (h : TestsO w g zo T) (hb : w'.heap[g]? = w.heap[g]?) : TestsO w' g zo T := fun i hi => by
  have e : ∀ o, w'.cell? ⟨g, o, none⟩ = w.cell? ⟨g, o, none⟩ := fun o => World.cell?_of_block (w := w) (a := ⟨g, o, none⟩) hb
  obtain ⟨a, b, c, d⟩ := h i hi
  exact ⟨(e _).trans a, (e _).trans b, (e _).trans c, (e _).trans d⟩

theorem KindsA.keep {w w' : World} {sa : Option Addr} {ks : List Int} (h : KindsA w sa ks) (hb : ∀ k, k < w.heap.size → w'.heap[k]? = w.heap[k]?) : KindsA w' sa ks := by
  rcases h with h | ⟨g, zo, h1, h2⟩
  · exact .inl h
  · by_cases h0 : 0 < ks.length
    · exact .inr ⟨g, zo, h1, h2.keep (hb g (h2.lt h0))⟩
    · exact .inl (List.eq_nil_of_length_eq_zero (by omega))
theorem RowA.keep {w w' : World} {sa : Option Addr} {r : List (Int × ByteArray)} (h : RowA w sa r) (hb : ∀ k, k < w.heap.size → w'.heap[k]? = w.heap[k]?) : RowA w' sa r := by
  rcases h with h | ⟨g, zo, h1, h2⟩
  · exact .inl h
  · by_cases h0 : 0 < r.length
    · exact .inr ⟨g, zo, h1, h2.keep (hb g (h2.lt h0))⟩
    · exact .inl (List.eq_nil_of_length_eq_zero (by omega))
theorem TestsA.keep {w w' : World} {sa : Option Addr} {T : List Tst} (h : TestsA w sa T) (hb : ∀ k, k < w.heap.size → w'.heap[k]? = w.heap[k]?) : TestsA w' sa T := by
  rcases h with h | ⟨g, zo, h1, h2⟩
  · exact .inl h
  · by_cases h0 : 0 < T.length
    · exact .inr ⟨g, zo, h1, h2.keep (hb g (h2.lt h0))⟩
    · exact .inl (List.eq_nil_of_length_eq_zero (by omega))

theorem KindsIn.off {w : World} {g : Nat} {ks : List Int} (h : KindsIn w g ks) : KindsO w g 0 ks := fun i hi => by rw [Nat.zero_add]; exact h i hi
theorem RowIn.off {w : World} {g : Nat} {r : List (Int × ByteArray)} (h : RowIn w g r) : RowO w g 0 r := fun i hi => by rw [Nat.zero_add]; exact h i hi
theorem TestsIn.off {w : World} {g : Nat} {T : List Tst} (h : TestsIn w g T) : TestsO w g 0 T := fun i hi => by rw [Nat.zero_add]; exact h i hi

end Go.Proofs.YtcconhgbefhdeaaDoor
