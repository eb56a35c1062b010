import Derived.Test.YtcconhgbefhdeaaDoorPair
namespace Go.Proofs.YtcconhgbefhdeaaDoor
open Go.RowKit

/-- P5: the rows that come out. -/
def scanRows (ks : List Int) (rows : List (List (Int × ByteArray))) (T : List Tst) : List (List (Int × ByteArray)) := if (testFault ks T).1 = 0 then rows.filter (fun r => passB ks r T) else []

theorem testFault_zero {ks : List Int} {T : List Tst} (h : (testFault ks T).1 = 0) : testFault ks T = (0, 0) := by
  unfold testFault at h ⊢
  split at h
  · simp at h
  · rename_i h1
    rw [if_neg h1]
    split at h
    · simp at h
    · split at h
      · simp at h
      · rename_i h2; exact if_neg h2
theorem testFault_three {ks : List Int} {T : List Tst} (h : (testFault ks T).1 ≠ 0) : (testFault ks T).1 = 3 := by
  unfold testFault at h ⊢
  split at h
  · rename_i h1; rw [if_pos h1]
  · rename_i h1
    rw [if_neg h1]
    split at h
    · rfl
    · split at h
      · rename_i h2; rw [if_pos h2]
      · simp at h

theorem scanRows_sub {ks : List Int} {rows : List (List (Int × ByteArray))} {T : List Tst} : (scanRows ks rows T).length ≤ rows.length ∧ ∀ r ∈ scanRows ks rows T, r ∈ rows := by
  unfold scanRows
  split
  · exact ⟨List.length_filter_le _ _, fun r hr => (List.mem_filter.1 hr).1⟩
  · exact ⟨by simp, fun r hr => by cases hr⟩

/-- What the program's Scan leaves. -/
def TabScans (ks : List Int) (rows : List (List (Int × ByteArray))) (T : List Tst) (w : World) (e : Ending) (w' : World) : Prop :=
  ∃ v ev M, e = .returned (.tuple #[v, ev]) ∧ ErrIs w' ev (testFault ks T).1 (testFault ks T).2 ∧ RowsAt w' w.heap.size v M ∧ M.map Prod.snd = scanRows ks rows T ∧ Below w.heap.size w w' ∧ (M.map Prod.fst).Nodup

theorem tabScans_any (S : Nat → Prop) (bt : Nat) (ks : List Int) (rows : List (List (Int × ByteArray))) (tcap : Nat) (ta : Option Addr) (T : List Tst) (w : World) (hgt : ErrType w) (h : TabOK w S bt ks rows) (hg : GoodK ks) (hr : GoodR ks rows) (hT : TestsAt w ta T) :
    Calls Tryd.prog 12 #[.pointer (some ⟨bt, 0, none⟩), .slice ta T.length tcap] w (TabScans ks rows T w) := by
  by_cases h0 : (testFault ks T).1 = 0
  · refine (tabScan_ok S bt ks rows tcap ta T w h hg hr hT (testFault_ok ks T h0)).mono ?_
    rintro e w' ⟨v, M, rfl, h1, h2, h3, h4⟩
    refine ⟨v, _, M, rfl, .inl ⟨rfl, ?_, ?_⟩, h1, ?_, h3, h4⟩
    · rw [testFault_zero h0]
    · rw [testFault_zero h0]
    · unfold scanRows; rw [if_pos h0]; exact h2
  · obtain ⟨bs, L, sv, fv, hTa, hL, hS⟩ := h.ex
    refine (scan_bad 0 bt bs ks L sv fv tcap ta T w hgt hTa hg.one hT h0).mono ?_
    rintro e w' ⟨fb, rfl, h1, h2⟩
    refine ⟨_, _, [], rfl, .inr ?_, ⟨World.ownsRow_nil _ _ _ _, by simp⟩, ?_, h2, List.nodup_nil⟩
    · rw [testFault_three h0]; exact h1
    · unfold scanRows; rw [if_neg h0]; rfl

/-- What the document's Scan leaves. -/
def RefScans (ks : List Int) (rows : List (List (Int × ByteArray))) (T : List Tst) (w : World) (e : Ending) (w' : World) : Prop :=
  ∃ v R, e = .returned (.tuple #[v, .int .i64 (testFault ks T).1, .int .i64 (testFault ks T).2]) ∧ RRowsAt w' 0 v R ∧ R.map RRow.r = scanRows ks rows T ∧ Below w.heap.size w w'

theorem refScans_any (S : Nat → Prop) (br : Nat) (ks : List Int) (rows : List (List (Int × ByteArray))) (tcap : Nat) (ta : Option Addr) (T : List Tst) (w : World) (h : RefOK w S br ks rows) (hg : GoodK ks) (hr : GoodR ks rows) (hT : TestsA w ta T) (htg : TstRg T) :
    Calls Tryd.prog 57 #[.pointer (some ⟨br, 0, none⟩), .slice ta T.length tcap] w (RefScans ks rows T w) := by
  obtain ⟨R, sv, fv, hRA, hL, hS⟩ := h.ex
  have hlen : R.length = rows.length := by rw [← hL, List.length_map]
  by_cases h0 : (testFault ks T).1 = 0
  · obtain ⟨fa, fc, rfl⟩ : ∃ fa fc, fv = .slice fa R.length fc := by
      rcases hRA.rows.own.2 with ⟨h1, h2⟩ | ⟨gg, cp, _, h1, _⟩
      · exact ⟨none, 0, by rw [h1, h2]⟩
      · exact ⟨_, cp, h1⟩
    refine (refScan_ok 0 br ks R sv fa fc tcap ta T w hRA (by have := hr.few; omega) hg.one hg.ty (fun p hp => hr.fit _ (by rw [← hL]; exact List.mem_map_of_mem hp)) hT htg h0).mono ?_
    rintro e w' ⟨v, rfl, h1, h2⟩
    refine ⟨v, R.filter (fun p => passB ks p.r T), ?_, ⟨own_base h1, fun p hp => ?_⟩, ?_, h2⟩
    · rw [testFault_zero h0]
    · obtain ⟨_, a2, cs, fr, a3⟩ := hRA.rows.row p (List.mem_filter.1 hp).1
      have hb := h2.block p.g (Array.getElem?_eq_some_iff.1 a3).1
      exact ⟨Nat.zero_le _, a2.keep hb, cs, fr, hb.trans a3⟩
    · unfold scanRows; rw [if_pos h0, ← hL, List.filter_map]; rfl
  · refine (refScan_bad 0 br ks R sv fv tcap ta T w hRA hg.one hg.ty hT h0).mono ?_
    rintro e w' ⟨rfl, h2⟩
    refine ⟨_, [], rfl, ⟨World.ownsRow_nil _ _ _ _, by simp⟩, ?_, h2⟩
    unfold scanRows; rw [if_neg h0]; rfl

end Go.Proofs.YtcconhgbefhdeaaDoor
