import Derived.Test.YtcconhgbefhdeaaDoorTab
namespace Go.Proofs.YtcconhgbefhdeaaDoor
open Go.RowKit

theorem TabOK.lt {w : World} {S : Nat → Prop} {bt : Nat} {ks : List Int} {rows : List (List (Int × ByteArray))} (h : TabOK w S bt ks rows) : TabOK w (fun k => S k ∧ k < w.heap.size) bt ks rows := by
  obtain ⟨bs, L, sv, fv, h1, h2, h3⟩ := h.ex
  exact ⟨bs, L, sv, fv, h1, h2, fun k hf => ⟨h3 k hf, h1.footLt k hf⟩⟩
theorem RefOK.lt {w : World} {S : Nat → Prop} {br : Nat} {ks : List Int} {rows : List (List (Int × ByteArray))} (h : RefOK w S br ks rows) : RefOK w (fun k => S k ∧ k < w.heap.size) br ks rows := by
  obtain ⟨R, sv, fv, h1, h2, h3⟩ := h.ex
  exact ⟨R, sv, fv, h1, h2, fun k hf => ⟨h3 k hf, h1.footLt k hf⟩⟩

/-- A table and the document's table that show the same rows and share no block; all their blocks are of one kind. -/
structure Pair (w : World) (S : Nat → Prop) (bt br : Nat) (ks : List Int) (rows : List (List (Int × ByteArray))) : Prop where
  ex : ∃ T T' : Nat → Prop, TabOK w T bt ks rows ∧ RefOK w T' br ks rows ∧ (∀ k, T k → S k ∧ k < w.heap.size) ∧ (∀ k, T' k → S k ∧ k < w.heap.size) ∧ ∀ k, T k → ¬ T' k

theorem Pair.keep {w w' : World} {S U : Nat → Prop} {bt br : Nat} {ks : List Int} {rows : List (List (Int × ByteArray))} (h : Pair w S bt br ks rows) (hz : w.heap.size ≤ w'.heap.size) (hS : ∀ k, k < w.heap.size → S k → U k) (hb : ∀ k, k < w.heap.size → S k → w'.heap[k]? = w.heap[k]?) : Pair w' U bt br ks rows := by
  obtain ⟨T, T', h1, h2, h3, h4, h5⟩ := h.ex
  exact ⟨T, T', h1.keep (fun _ h => h) (fun k hk ht => hb k hk (h3 k ht).1), h2.keep (fun _ h => h) (fun k hk ht => hb k hk (h4 k ht).1), fun k ht => ⟨hS k (h3 k ht).2 (h3 k ht).1, Nat.lt_of_lt_of_le (h3 k ht).2 hz⟩, fun k ht => ⟨hS k (h4 k ht).2 (h4 k ht).1, Nat.lt_of_lt_of_le (h4 k ht).2 hz⟩, h5⟩

/-- P4: the rows behind an Append. -/
def rowsAfter (ks : List Int) (rows : List (List (Int × ByteArray))) (r : List (Int × ByteArray)) : List (List (Int × ByteArray)) := if (appendFault ks r rows.length).1 = 0 then rows ++ [r] else rows

theorem appendFault_zero {ks : List Int} {r : List (Int × ByteArray)} {n : Nat} (h : (appendFault ks r n).1 = 0) : appendFault ks r n = (0, 0) ∧ FitsRow ks r ∧ n < 1000 := by
  by_cases h1 : (rowFault ks r).1 = 0
  · have hf := rowFault_ok ks r h1
    by_cases h2 : n < 1000
    · exact ⟨by unfold appendFault; rw [if_neg (by simpa using h1), if_pos h2], hf, h2⟩
    · have e : appendFault ks r n = (6, 0) := by unfold appendFault; rw [if_neg (by simpa using h1), if_neg h2]
      rw [e] at h; simp at h
  · have e : appendFault ks r n = (2, (rowFault ks r).2) := by unfold appendFault; rw [if_pos h1]
    rw [e] at h; simp at h

theorem goodR_after {ks : List Int} {rows : List (List (Int × ByteArray))} {r : List (Int × ByteArray)} (h : GoodR ks rows) (hr : RowRg r) : GoodR ks (rowsAfter ks rows r) := by
  unfold rowsAfter
  split
  · rename_i h0
    obtain ⟨_, hf, hn⟩ := appendFault_zero h0
    refine ⟨by simp; omega, fun x hx => ?_⟩
    rcases List.mem_append.1 hx with hx | hx
    · exact h.fit x hx
    · rw [List.mem_singleton.1 hx]; exact ⟨hf, hr⟩
  · exact h

/-- What an error of the program's says. -/
def ErrIs (w : World) (v : Value) (k a : Int) : Prop := (v = .nilIface ∧ k = 0 ∧ a = 0) ∨ FaultAt w v k a

theorem ErrIs.below {w w' : World} {v : Value} {k a : Int} (h : ErrIs w v k a) (hb : Below w.heap.size w w') : ErrIs w' v k a := h.imp id (fun h => h.below hb)

theorem lawFault_any (v : Value) (k a : Int) (w : World) (h : ErrIs w v k a) : Calls Tryd.prog 36 #[v] w fun e w' => e = .returned (.tuple #[.int .i64 k, .int .i64 a]) ∧ ∃ n, w' = w.drewN n := by
  rcases h with ⟨rfl, rfl, rfl⟩ | h
  · exact (lawFault_nil w).mono (fun e w' ⟨h1, h2⟩ => ⟨h1, 0, h2⟩)
  · exact lawFault_err v k a w h

/-- What the program's Append leaves. -/
def TabAppends (S : Nat → Prop) (bt : Nat) (ks : List Int) (rows : List (List (Int × ByteArray))) (r : List (Int × ByteArray)) (w : World) (e : Ending) (w' : World) : Prop :=
  ∃ v, e = .returned v ∧ ErrIs w' v (appendFault ks r rows.length).1 (appendFault ks r rows.length).2 ∧ TabOK w' (fun b => S b ∨ (w.heap.size ≤ b ∧ b < w'.heap.size)) bt ks (rowsAfter ks rows r) ∧ FrS S w w'

theorem tabAppends_any (S : Nat → Prop) (bt : Nat) (ks : List Int) (rows : List (List (Int × ByteArray))) (r : List (Int × ByteArray)) (ra : Option Addr) (cap : Nat) (w : World) (hgt : ErrType w) (h : TabOK w S bt ks rows) (hg : GoodK ks) (hl : rows.length ≤ 1000) (hin : RowAt w ra r) :
    Calls Tryd.prog 25 #[.pointer (some ⟨bt, 0, none⟩), .slice ra r.length cap] w (TabAppends S bt ks rows r w) := by
  by_cases h0 : (appendFault ks r rows.length).1 = 0
  · obtain ⟨hz, hf, hn⟩ := appendFault_zero h0
    rcases hin with hn' | ⟨g, rfl, hin⟩
    · have e1 := hf.1
      have e2 := hg.one
      rw [hn'] at e1
      simp only [List.length_nil] at e1
      omega
    refine (tabAppend_ok S bt ks rows r g cap w h hg hn hin hf).mono ?_
    rintro e w' ⟨rfl, h1, h2⟩
    refine ⟨_, rfl, .inl ⟨rfl, ?_, ?_⟩, ?_, h2⟩
    · rw [hz]
    · rw [hz]
    · unfold rowsAfter; rw [if_pos h0]; exact h1
  · refine (tabAppend_bad S bt ks rows r ra cap w hgt h hg hl hin h0).mono ?_
    rintro e w' ⟨fb, rfl, h1, h2⟩
    refine ⟨_, rfl, .inr h1, ?_, FrS.of_below h2⟩
    unfold rowsAfter; rw [if_neg h0]
    exact h.keep (fun _ h => .inl h) (fun k hk _ => h2.block k hk)

/-- What the document's Append leaves, in one. -/
def RefAppends1 (S : Nat → Prop) (br : Nat) (ks : List Int) (rows : List (List (Int × ByteArray))) (r : List (Int × ByteArray)) (w : World) (e : Ending) (w' : World) : Prop :=
  e = .returned (.tuple #[.int .i64 (appendFault ks r rows.length).1, .int .i64 (appendFault ks r rows.length).2]) ∧ RefOK w' (fun b => S b ∨ (w.heap.size ≤ b ∧ b < w'.heap.size)) br ks (rowsAfter ks rows r) ∧ FrS S w w'

theorem refAppends1_any (S : Nat → Prop) (br : Nat) (ks : List Int) (rows : List (List (Int × ByteArray))) (r : List (Int × ByteArray)) (ra : Option Addr) (cap : Nat) (w : World) (h : RefOK w S br ks rows) (hg : GoodK ks) (hl : rows.length ≤ 1000) (hin : RowA w ra r) :
    Calls Tryd.prog 39 #[.pointer (some ⟨br, 0, none⟩), .slice ra r.length cap] w (RefAppends1 S br ks rows r w) := by
  refine (refAppends_any S br ks rows r ra cap w h hg hl hin).mono ?_
  rintro e w' ⟨rfl, ⟨h0, hb⟩ | ⟨h0, h1, h2⟩⟩
  · refine ⟨rfl, ?_, FrS.of_below hb⟩
    unfold rowsAfter; rw [if_neg h0]
    exact h.keep (fun _ h => .inl h) (fun k hk _ => hb.block k hk)
  · refine ⟨rfl, ?_, h2⟩
    unfold rowsAfter; rw [if_pos h0]; exact h1

end Go.Proofs.YtcconhgbefhdeaaDoor
