import Derived.Test.YtcconhgbefhdeaaDoorSame
namespace Go.Proofs.YtcconhgbefhdeaaDoor
open Go.RowKit

theorem kinds_new (w : World) (ks : List Int) : KindsIn (w.alloc (.cells (ks.map (Value.int .i64)).toArray 3)) w.heap.size ks := fun i hi => by
  rw [cell_of_row _ _ _ _ _ _ (heap_alloc_new w _)]; simp [hi]

theorem rowBlk_new (w : World) (r : List (Int × ByteArray)) : RowBlk (w.alloc (.cells (vcells r).toArray 30)) (w.heap.size, r) := heap_alloc_new w _

def bA : ByteArray := ⟨#[97]⟩
def bB : ByteArray := ⟨#[98]⟩
def bC : ByteArray := ⟨#[99]⟩
def bE : ByteArray := ⟨#[]⟩
def knR1 : List (Int × ByteArray) := [(5, bE), (0, bA)]
def knR2 : List (Int × ByteArray) := [(7, bE), (0, bB)]
def knR3 : List (Int × ByteArray) := [(5, bE), (0, bC)]
def knT : List Tst := [⟨5, 0, 5, bE⟩, ⟨1, 1, 0, bC⟩, ⟨8, 0, 0, bE⟩]

theorem knFilter : [knR1, knR2, knR3].filter (fun r => passB [1, 3] r knT) = [knR2, knR3] := by
  have h1 : passB [1, 3] knR1 knT = false := by kernel_rfl
  have h2 : passB [1, 3] knR2 knT = true := by kernel_rfl
  have h3 : passB [1, 3] knR3 knT = true := by kernel_rfl
  simp [List.filter, h1, h2, h3]

theorem knFits (r : List (Int × ByteArray)) (h : r = knR1 ∨ r = knR2 ∨ r = knR3) : FitsRow [1, 3] r ∧ (∀ p ∈ r, p.2.size ≤ 1000000) ∧ r.length = 2 := by
  have e1 : fitsB 1 5 bE = true := by kernel_rfl
  have e2 : fitsB 1 7 bE = true := by kernel_rfl
  have e3 : fitsB 3 0 bA = true := by kernel_rfl
  have e4 : fitsB 3 0 bB = true := by kernel_rfl
  have e5 : fitsB 3 0 bC = true := by kernel_rfl
  have s1 : bE.size = 0 := by kernel_rfl
  have s2 : bA.size = 1 := by kernel_rfl
  have s3 : bB.size = 1 := by kernel_rfl
  have s4 : bC.size = 1 := by kernel_rfl
  rcases h with rfl | rfl | rfl
  all_goals
    refine ⟨⟨rfl, fun i h h' => ?_⟩, ?_, rfl⟩
    · match i, h with
      | 0, _ => assumption
      | 1, _ => assumption
    · intro p hp
      simp only [knR1, knR2, knR3, List.mem_cons, List.not_mem_nil, or_false] at hp
      rcases hp with rfl | rfl <;> simp only [s1, s2, s3, s4] <;> omega

theorem knValid : ValidT [1, 3] knT := by
  have e1 : fitsB 1 5 bE = true := by kernel_rfl
  have e5 : fitsB 3 0 bC = true := by kernel_rfl
  refine ⟨fun i h => ?_, .inr (by kernel_rfl), by decide⟩
  match i, h with
  | 0, _ => exact .inl ⟨by simp [knT], 0, rfl, by simp, e1⟩
  | 1, _ => exact .inl ⟨by simp [knT], 1, rfl, by simp, e5⟩
  | 2, _ => exact .inr ⟨by simp [knT], by simp [knT, takesI, cntI]⟩

theorem knTests (w : World) : TestsIn (w.alloc (.cells #[.int .i64 5, .int .i64 0, .int .i64 5, .string ⟨#[]⟩, .int .i64 1, .int .i64 1, .int .i64 0, .string ⟨#[99]⟩, .int .i64 8, .int .i64 0, .int .i64 0, .string ⟨#[]⟩] 32)) w.heap.size knT := fun i hi => by
  have hb := heap_alloc_new w (.cells #[.int .i64 5, .int .i64 0, .int .i64 5, .string ⟨#[]⟩, .int .i64 1, .int .i64 1, .int .i64 0, .string ⟨#[99]⟩, .int .i64 8, .int .i64 0, .int .i64 0, .string ⟨#[]⟩] 32)
  rw [cell_of_row _ _ _ _ _ _ hb, cell_of_row _ _ _ _ _ _ hb, cell_of_row _ _ _ _ _ _ hb, cell_of_row _ _ _ _ _ _ hb]
  match i, hi with
  | 0, _ => exact ⟨rfl, rfl, rfl, rfl⟩
  | 1, _ => exact ⟨rfl, rfl, rfl, rfl⟩
  | 2, _ => exact ⟨rfl, rfl, rfl, rfl⟩

theorem knRows (a b c : Nat) : ∀ p ∈ [] ++ [(a, knR1)] ++ [(b, knR2)] ++ [(c, knR3)], p.2.length = [(1 : Int), 3].length ∧ ∀ x ∈ p.2, x.2.size ≤ 1000000 := by
  intro p hp
  simp only [List.nil_append, List.append_assoc, List.mem_append, List.mem_singleton] at hp
  rcases hp with rfl | rfl | rfl
  · exact ⟨rfl, (knFits _ (.inl rfl)).2.1⟩
  · exact ⟨rfl, (knFits _ (.inr (.inl rfl))).2.1⟩
  · exact ⟨rfl, (knFits _ (.inr (.inr rfl))).2.1⟩

theorem knTwo (w : World) : RowsIn (((w.alloc (.cells (vcells knR2).toArray 30)).alloc (.cells (vcells knR3).toArray 30)).alloc (.cells #[.slice (some ⟨w.heap.size, 0, none⟩) 2 2, .slice (some ⟨w.heap.size + 1, 0, none⟩) 2 2] 25)) (some ⟨w.heap.size + 2, 0, none⟩) [(w.heap.size, knR2), (w.heap.size + 1, knR3)] := by
  have hz : ((w.alloc (.cells (vcells knR2).toArray 30)).alloc (.cells (vcells knR3).toArray 30)).heap.size = w.heap.size + 2 := by simp
  refine ⟨.inr ⟨w.heap.size + 2, rfl, fun k hk => ?_⟩, fun p hp => ?_⟩
  · rw [← hz, cell_of_row _ _ _ _ _ _ (heap_alloc_new _ _)]
    match k, hk with
    | 0, _ => rfl
    | 1, _ => rfl
  · simp only [List.mem_cons, List.not_mem_nil, or_false] at hp
    unfold RowBlk
    rcases hp with rfl | rfl
    · rw [Below.heap_alloc _ _ _ (by simp; omega), Below.heap_alloc _ _ _ (by simp)]
      exact heap_alloc_new w _
    · rw [Below.heap_alloc _ _ _ (by simp)]
      exact new_second w _ _

theorem Fr.tableBelow {w w' w0 : World} {base bt bs : Nat} {ks : List Int} {L : List (Nat × List (Int × ByteArray))} {sv fv : Value} (h : TableAt w0 base bt bs ks L sv fv) (hF : Fr (bs :: fv.ownBlock.toList) w w') (hb : base ≤ w.heap.size) : Below base w w' :=
  hF.below hb (fun i hi => by
    rcases List.mem_cons.1 hi with rfl | hi
    · exact h.sto.lo
    · exact (h.sto.rows.own.lt i (by simpa using hi)).1)

set_option maxRecDepth 100000 in
set_option maxHeartbeats 1000000 in
theorem known_ok (w : World) : Calls Tryd.prog 9 #[] w fun e w' => e = .returned (.bool true) ∧ Below w.heap.size w w' := by
  go_enter Tryd.func9, Tryd.ntmps9
  go_wp2_with fail
  refine (new_ok w.heap.size 2 [1, 3] _ (kinds_new w [1, 3]) (by decide) (by decide) (by decide)).mono ?_
  rintro e w1 ⟨bt, bs, sv, rfl, h1, hb1⟩
  have s1 := hb1.size
  simp at s1
  have t1 := h1.below ((Below.refl w1.heap.size w1).alloc (Nat.le_refl _) (.cells (vcells knR1).toArray 30))
  go_wp2_with fail
  refine (tableAppend_ok _ bt bs [1, 3] [] sv _ knR1 w1.heap.size 2 _ t1 (by simp; omega) (by decide) (rowBlk_new w1 knR1).rowIn (by decide) (by decide) (knFits _ (.inl rfl)).1 (knFits _ (.inl rfl)).2.1).mono ?_
  rintro e w2 ⟨rfl, fv2, g2, h2, _, hF2, _⟩
  have B2 := hF2.tableBelow t1 (by simp; omega)
  have s2 := hF2.size
  simp at s2
  clear hF2
  have t2 := h2.below ((Below.refl w2.heap.size w2).alloc (Nat.le_refl _) (.cells (vcells knR2).toArray 30))
  go_wp2_with fail
  refine (tableAppend_ok _ bt bs [1, 3] _ sv _ knR2 w2.heap.size 2 _ t2 (by simp; omega) (by simp) (rowBlk_new w2 knR2).rowIn (by decide) (by decide) (knFits _ (.inr (.inl rfl))).1 (knFits _ (.inr (.inl rfl))).2.1).mono ?_
  rintro e w3 ⟨rfl, fv3, g3, h3, _, hF3, _⟩
  have B3 := hF3.tableBelow t2 (by simp; omega)
  have s3 := hF3.size
  simp at s3
  clear hF3
  have t3 := h3.below ((Below.refl w3.heap.size w3).alloc (Nat.le_refl _) (.cells (vcells knR3).toArray 30))
  go_wp2_with fail
  refine (tableAppend_ok _ bt bs [1, 3] _ sv _ knR3 w3.heap.size 2 _ t3 (by simp; omega) (by simp) (rowBlk_new w3 knR3).rowIn (by decide) (by decide) (knFits _ (.inr (.inr rfl))).1 (knFits _ (.inr (.inr rfl))).2.1).mono ?_
  rintro e w4 ⟨rfl, fv4, g4, h4, _, hF4, _⟩
  have B4 := hF4.tableBelow t3 (by simp; omega)
  have s4 := hF4.size
  simp at s4
  clear hF4
  have t4 := h4.below ((Below.refl w4.heap.size w4).alloc (Nat.le_refl _) (.cells #[.int .i64 5, .int .i64 0, .int .i64 5, .string ⟨#[]⟩, .int .i64 1, .int .i64 1, .int .i64 0, .string ⟨#[99]⟩, .int .i64 8, .int .i64 0, .int .i64 0, .string ⟨#[]⟩] 32))
  go_wp2_with fail
  refine (scan_ok _ bt bs [1, 3] _ sv _ 3 (some ⟨w4.heap.size, 0, none⟩) knT _ t4 (by simp) (by decide) (by decide) (knRows g2 g3 g4) (.inr ⟨_, rfl, knTests w4⟩) knValid).mono ?_
  rintro e w5 ⟨v, M, rfl, hM, hMe, hb5, _⟩
  have s5 := hb5.size
  simp at s5
  have hMk : M.map Prod.snd = [knR2, knR3] := by rw [hMe]; exact knFilter
  have hM2 : M.length = 2 := by have := congrArg List.length hMk; simpa using this
  have hM' : RowsAt (((w5.alloc (.cells (vcells knR2).toArray 30)).alloc (.cells (vcells knR3).toArray 30)).alloc (.cells #[.slice (some ⟨w5.heap.size, 0, none⟩) 2 2, .slice (some ⟨w5.heap.size + 1, 0, none⟩) 2 2] 25)) _ v M :=
    hM.keepOn (fun k hk _ => by rw [Below.heap_alloc _ _ _ (by simp; omega), Below.heap_alloc _ _ _ (by simp; omega), Below.heap_alloc _ _ _ hk])
  obtain ⟨va, vc, hve, hvin⟩ := hM'.rowsIn
  rw [hM2] at hve
  subst hve
  have HV : Hid (RowsIn (((w5.alloc (.cells (vcells knR2).toArray 30)).alloc (.cells (vcells knR3).toArray 30)).alloc (.cells #[.slice (some ⟨w5.heap.size, 0, none⟩) 2 2, .slice (some ⟨w5.heap.size + 1, 0, none⟩) 2 2] 25)) va M) := hvin
  have HK : Hid (M.map Prod.snd = [knR2, knR3]) := hMk
  have H2 : Hid (M.length = 2) := hM2
  clear hvin hMk hM2 hM' hM hMe t1 t2 t3 t4 h1 h2 h3 h4
  go_wp2_with fail
  have hs := same_eq va (some ⟨w5.heap.size + 2, 0, none⟩) vc 2 M [(w5.heap.size, knR2), (w5.heap.size + 1, knR3)] _ HV.out (knTwo w5) HK.out (by have := H2.out; omega) (fun p hp => by
    have : p.2 ∈ [knR2, knR3] := by rw [← HK.out]; exact List.mem_map_of_mem hp
    simp only [List.mem_cons, List.not_mem_nil, or_false] at this
    rcases this with h | h <;> rw [h] <;> decide)
  rw [H2.out] at hs
  refine hs.mono ?_
  clear hs
  rintro e w6 ⟨rfl, q, rfl⟩
  go_wp2
  go_ret
  refine ⟨rfl, ?_⟩
  have b1 : Below w.heap.size w w1 := ((Below.refl _ _).alloc (Nat.le_refl _) _).trans (hb1.mono (by simp))
  have b2 : Below w.heap.size w w2 := (b1.alloc (by omega) _).trans (B2.mono (by simp))
  have b3 : Below w.heap.size w w3 := (b2.alloc (by omega) _).trans (B3.mono (by simp))
  have b4 : Below w.heap.size w w4 := (b3.alloc (by omega) _).trans (B4.mono (by simp))
  have b5 : Below w.heap.size w w5 := (b4.alloc (by omega) _).trans (hb5.mono (by simp; omega))
  exact (((b5.alloc (by omega) _).alloc (by simp; omega) _).alloc (by simp; omega) _).trans ((drewN_below _ q).mono (by simp; omega))

end Go.Proofs.YtcconhgbefhdeaaDoor
