import Derived.Test.YtcconhgbefhdeaaDoorTest
import Derived.Test.YtcconhgbefhdeaaDoorMade
import Derived.Test.YtcconhgbefhdeaaDoorSameOne
import Derived.Test.YtcconhgbefhdeaaDoorDel
namespace Go.Proofs.YtcconhgbefhdeaaDoor
open Go.RowKit

/-- A comparison that may be. -/
def goodT (ks : List Int) (t : Tst) : Prop := (1 ≤ t.dO ∧ t.dO ≤ 6) ∧ ∃ c : Nat, t.col = c ∧ ∃ h : c < ks.length, fitsB ks[c] t.n t.s = true

theorem rawTest_good (d c : Int) (x : Raw) : goodT [1, 2, 3, 4] (rawTest d c x) := by
  obtain ⟨k, hk, hke⟩ := pick_lt c 4 (by omega)
  obtain ⟨m, hm, hme⟩ := pick_lt d 6 (by omega)
  have hk4 : k < x.row.length := by rw [rawRow_length]; omega
  have hkk : k < [1, 2, 3, (4 : Int)].length := by simp; omega
  have e : rawTest d c x = ⟨1 + (m : Int), (k : Int), (x.row[k]).1, (x.row[k]).2⟩ := by unfold rawTest; rw [hke, hme]; simp [List.getD, hk4]; exact ⟨rfl, rfl⟩
  rw [e]
  exact ⟨⟨by simp; omega, by simp; omega⟩, k, rfl, hkk, (raw_fits x).1.2 k hkk hk4⟩

def tNot : Tst := ⟨9, 0, 0, bE⟩
def tAnd : Tst := ⟨7, 0, 0, bE⟩
def tOr : Tst := ⟨8, 0, 0, bE⟩

theorem takes_not : takesI tNot.dO = 1 := by decide
theorem takes_and : takesI tAnd.dO = 2 := by decide
theorem takes_or : takesI tOr.dO = 2 := by decide

theorem goodT.ok {ks : List Int} {t : Tst} (h : goodT ks t) (a : Int) : okT ks t a := .inl ⟨by have := h.1; omega, h.2⟩
theorem goodT.takes {ks : List Int} {t : Tst} (h : goodT ks t) : takesI t.dO = 0 := by have := h.1; unfold takesI; rw [if_neg (by omega), if_neg (by omega)]

theorem valid_nil (ks : List Int) : ValidT ks [] := ⟨fun i h => by simp at h, .inl rfl, by simp⟩
theorem valid_t {ks : List Int} {t : Tst} (h : goodT ks t) : ValidT ks [t] := by
  refine ⟨fun i hi => ?_, .inr (by simp [cntI, h.takes]), by simp⟩
  match i, hi with
  | 0, _ => exact h.ok _
theorem valid_tn {ks : List Int} {t : Tst} (h : goodT ks t) : ValidT ks [t, tNot] := by
  refine ⟨fun i hi => ?_, .inr (by simp [cntI, h.takes, takes_not]), by simp⟩
  match i, hi with
  | 0, _ => exact h.ok _
  | 1, _ => exact .inr ⟨by simp [tNot], by simp [cntI, h.takes, takes_not]⟩
theorem valid_tua {ks : List Int} {t u : Tst} (h : goodT ks t) (h' : goodT ks u) : ValidT ks [t, u, tAnd] := by
  refine ⟨fun i hi => ?_, .inr (by simp [cntI, h.takes, h'.takes, takes_and]), by simp⟩
  match i, hi with
  | 0, _ => exact h.ok _
  | 1, _ => exact h'.ok _
  | 2, _ => exact .inr ⟨by simp [tAnd], by simp [cntI, h.takes, h'.takes, takes_and]⟩
theorem valid_tuo {ks : List Int} {t u : Tst} (h : goodT ks t) (h' : goodT ks u) : ValidT ks [t, u, tOr] := by
  refine ⟨fun i hi => ?_, .inr (by simp [cntI, h.takes, h'.takes, takes_or]), by simp⟩
  match i, hi with
  | 0, _ => exact h.ok _
  | 1, _ => exact h'.ok _
  | 2, _ => exact .inr ⟨by simp [tOr], by simp [cntI, h.takes, h'.takes, takes_or]⟩

theorem step_good {ks : List Int} {t : Tst} (h : goodT ks t) (r : List (Int × ByteArray)) (rs : List Bool) : stepR ks r t rs = holdsB (ks.getD t.col.toNat 0) t.dO (r.getD t.col.toNat (0, .empty)).1 (r.getD t.col.toNat (0, .empty)).2 t.n t.s :: rs := by
  have := h.1
  unfold stepR
  rw [if_neg (by omega), if_neg (by omega), if_neg (by omega)]

theorem step_not (ks : List Int) (r : List (Int × ByteArray)) (a : Bool) (q : List Bool) : stepR ks r tNot (a :: q) = (!a) :: q := by simp [stepR, tNot]
theorem step_and (ks : List Int) (r : List (Int × ByteArray)) (a b : Bool) (q : List Bool) : stepR ks r tAnd (b :: a :: q) = (a && b) :: q := by simp [stepR, tAnd]
theorem step_or (ks : List Int) (r : List (Int × ByteArray)) (a b : Bool) (q : List Bool) : stepR ks r tOr (b :: a :: q) = (a || b) :: q := by simp [stepR, tOr]

theorem pass_n {ks : List Int} {t : Tst} (h : goodT ks t) (r : List (Int × ByteArray)) : passB ks r [t, tNot] = !passB ks r [t] := by
  simp [passB, runR, step_good h, step_not]
theorem pass_a {ks : List Int} {t u : Tst} (h : goodT ks t) (h' : goodT ks u) (r : List (Int × ByteArray)) : passB ks r [t, u, tAnd] = (passB ks r [t] && passB ks r [u]) := by
  simp [passB, runR, step_good h, step_good h', step_and]
theorem pass_o {ks : List Int} {t u : Tst} (h : goodT ks t) (h' : goodT ks u) (r : List (Int × ByteArray)) : passB ks r [t, u, tOr] = (passB ks r [t] || passB ks r [u]) := by
  simp [passB, runR, step_good h, step_good h', step_or]

theorem count_both {α : Type} (p : α → Bool) (A : List α) : (A.filter p).length + (A.filter (fun x => !p x)).length = A.length := by
  induction A with
  | nil => rfl
  | cons a A ih => cases h : p a <;> simp [h] <;> omega

theorem count_two {α : Type} (p q : α → Bool) (A : List α) : (A.filter (fun x => p x && q x)).length + (A.filter (fun x => p x || q x)).length = (A.filter p).length + (A.filter q).length := by
  induction A with
  | nil => rfl
  | cons a A ih => cases h : p a <;> cases h' : q a <;> simp [h, h'] <;> omega

theorem filter_at {α : Type} (p : α → Bool) (A : List α) (k : Nat) (hk : k < A.length) (hp : p A[k] = true) : (A.filter p)[((A.take k).filter p).length]? = some A[k] := by
  have e : A.filter p = (A.take k).filter p ++ (A[k] :: (A.drop (k + 1)).filter p) := by
    conv => lhs; rw [← List.take_append_drop k A, List.drop_eq_getElem_cons hk, List.filter_append, List.filter_cons_of_pos hp]
  rw [e, List.getElem?_append_right (Nat.le_refl _)]
  simp

theorem filter_take1 {α : Type} (p : α → Bool) (A : List α) (k : Nat) (hk : k < A.length) : ((A.take (k + 1)).filter p).length = ((A.take k).filter p).length + (if p A[k] then 1 else 0) := by
  rw [List.take_succ_eq_append_getElem hk, List.filter_append, List.length_append]
  cases h : p A[k] <;> simp [h]

/-- Tests that lie in a new block. -/
theorem tests_t (w : World) (t : Tst) : TestsIn (w.alloc (.cells #[.int .i64 t.dO, .int .i64 t.col, .int .i64 t.n, .string t.s] 32)) w.heap.size [t] := fun i hi => by
  have hb := heap_alloc_new w (.cells #[.int .i64 t.dO, .int .i64 t.col, .int .i64 t.n, .string t.s] 32)
  rw [cell_of_row _ _ _ _ _ _ hb, cell_of_row _ _ _ _ _ _ hb, cell_of_row _ _ _ _ _ _ hb, cell_of_row _ _ _ _ _ _ hb]
  match i, hi with
  | 0, _ => exact ⟨rfl, rfl, rfl, rfl⟩
theorem tests_tu (w : World) (t u : Tst) : TestsIn (w.alloc (.cells #[.int .i64 t.dO, .int .i64 t.col, .int .i64 t.n, .string t.s, .int .i64 u.dO, .int .i64 u.col, .int .i64 u.n, .string u.s] 32)) w.heap.size [t, u] := fun i hi => by
  have hb := heap_alloc_new w (.cells #[.int .i64 t.dO, .int .i64 t.col, .int .i64 t.n, .string t.s, .int .i64 u.dO, .int .i64 u.col, .int .i64 u.n, .string u.s] 32)
  rw [cell_of_row _ _ _ _ _ _ hb, cell_of_row _ _ _ _ _ _ hb, cell_of_row _ _ _ _ _ _ hb, cell_of_row _ _ _ _ _ _ hb]
  match i, hi with
  | 0, _ => exact ⟨rfl, rfl, rfl, rfl⟩
  | 1, _ => exact ⟨rfl, rfl, rfl, rfl⟩
theorem tests_tuv (w : World) (t u v : Tst) : TestsIn (w.alloc (.cells #[.int .i64 t.dO, .int .i64 t.col, .int .i64 t.n, .string t.s, .int .i64 u.dO, .int .i64 u.col, .int .i64 u.n, .string u.s, .int .i64 v.dO, .int .i64 v.col, .int .i64 v.n, .string v.s] 32)) w.heap.size [t, u, v] := fun i hi => by
  have hb := heap_alloc_new w (.cells #[.int .i64 t.dO, .int .i64 t.col, .int .i64 t.n, .string t.s, .int .i64 u.dO, .int .i64 u.col, .int .i64 u.n, .string u.s, .int .i64 v.dO, .int .i64 v.col, .int .i64 v.n, .string v.s] 32)
  rw [cell_of_row _ _ _ _ _ _ hb, cell_of_row _ _ _ _ _ _ hb, cell_of_row _ _ _ _ _ _ hb, cell_of_row _ _ _ _ _ _ hb]
  match i, hi with
  | 0, _ => exact ⟨rfl, rfl, rfl, rfl⟩
  | 1, _ => exact ⟨rfl, rfl, rfl, rfl⟩
  | 2, _ => exact ⟨rfl, rfl, rfl, rfl⟩

/-- A list of rows, as a value: where it lies, if there are some. -/
theorem RowsAt.lie {w : World} {base : Nat} {v : Value} {L : List (Nat × List (Int × ByteArray))} (h : RowsAt w base v L) : ∃ a c, v = .slice a L.length c ∧ L.length ≤ c ∧ (0 < L.length → ∃ g, a = some ⟨g, 0, none⟩ ∧ g < w.heap.size ∧ base ≤ g ∧ ∀ k (hk : k < L.length), w.cell? ⟨g, k, none⟩ = some (rval L[k])) := by
  by_cases hl : 0 < L.length
  · obtain ⟨fg, cp, hv, h1, h2, hc⟩ := rows_cell h hl
    have hn : L.length ≤ cp := by
      rcases h.own.2 with ⟨h3, _⟩ | ⟨gg, c', _, h3, _, _, h4, _⟩
      · rw [h3] at hv; cases hv
      · rw [h3] at hv
        simp only [Value.slice.injEq, true_and] at hv
        omega
    exact ⟨_, cp, hv, hn, fun _ => ⟨fg, rfl, h1, h2, hc⟩⟩
  · rcases h.own.2 with ⟨h1, h2⟩ | ⟨gg, cp, _, h1, _, _, h3, _⟩
    · exact ⟨none, 0, by rw [h1, h2], by omega, fun h => absurd h hl⟩
    · exact ⟨_, cp, h1, h3, fun h => absurd h hl⟩

end Go.Proofs.YtcconhgbefhdeaaDoor
