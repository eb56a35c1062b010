import Derived.Test.YtcconhgbefhdeaaDoorStill
namespace Go.Proofs.YtcconhgbefhdeaaDoor
open Go.RowKit

/-- The elements' types of the four lists that a World holds. -/
def fty : Nat → TypeId
  | 0 => 38
  | 1 => 66
  | 2 => 25
  | _ => 39

theorem fty_inj (j k : Nat) (hj : j < 4) (hk : k < 4) (h : fty j = fty k) : j = k := by
  have h1 : j = 0 ∨ j = 1 ∨ j = 2 ∨ j = 3 := by omega
  have h2 : k = 0 ∨ k = 1 ∨ k = 2 ∨ k = 3 := by omega
  rcases h1 with rfl | rfl | rfl | rfl <;> rcases h2 with rfl | rfl | rfl | rfl <;> first | rfl | (exfalso; revert h; decide)

theorem fty_ne (k : Nat) (hk : k < 4) : fty k ≠ 63 := by
  have h2 : k = 0 ∨ k = 1 ∨ k = 2 ∨ k = 3 := by omega
  rcases h2 with rfl | rfl | rfl | rfl <;> decide

/-- The World's own struct and its four lists. -/
structure BookAt (w : World) (wb : Nat) (F : List Value) (X : List (List Value)) : Prop where
  lf : F.length = 4
  lx : X.length = 4
  blk : w.heap[wb]? = some (.cells F.toArray 63 (0, 0))
  own : ∀ k (hf : k < F.length) (hx : k < X.length), w.ownsRow 0 (fty k) 1 F[k] X[k].length X[k]

theorem own_ty {w : World} {base : Nat} {e : TypeId} {size : Nat} {v : Value} {n : Nat} {xs : List Value} (h : w.ownsRow base e size v n xs) {g : Nat} (hg : v.ownBlock = some g) : ∃ cs fr, w.heap[g]? = some (.cells cs e fr) := by
  rcases h.2 with ⟨h1, _⟩ | ⟨gg, cp, cur, h1, _, h2, _⟩
  · rw [h1] at hg; cases hg
  · rw [h1] at hg
    simp only [Value.ownBlock, Option.some.injEq] at hg
    rw [← hg]; exact ⟨_, _, h2⟩

theorem own_keep2 {w w' : World} {base : Nat} {e : TypeId} {size : Nat} {v : Value} {n : Nat} {xs : List Value} (h : w.ownsRow base e size v n xs) (hb : ∀ g, v.ownBlock = some g → w'.heap[g]? = w.heap[g]?) : w'.ownsRow base e size v n xs := by
  refine ⟨h.1, ?_⟩
  rcases h.2 with h1 | ⟨g, cap, cur, hv, hg, hh, rest⟩
  · exact .inl h1
  · exact .inr ⟨g, cap, cur, hv, hg, (hb g (by rw [hv]; rfl)).trans hh, rest⟩

theorem BookAt.keep {w w' : World} {wb : Nat} {F : List Value} {X : List (List Value)} (h : BookAt w wb F X) (hb : ∀ k, (k = wb ∨ ∃ v ∈ F, v.ownBlock = some k) → w'.heap[k]? = w.heap[k]?) : BookAt w' wb F X :=
  ⟨h.lf, h.lx, (hb wb (.inl rfl)).trans h.blk, fun k hf hx => own_keep2 (h.own k hf hx) (fun g hg => hb g (.inr ⟨_, List.getElem_mem hf, hg⟩))⟩

/-- One thing more at the end of one of the four lists. -/
theorem BookAt.push {w w3 : World} {wb : Nat} {F : List Value} {X : List (List Value)} {o : Obj} {k gg cp : Nat} {x : Value} (h : BookAt w wb F X) (hf : k < F.length) (hx : k < X.length)
    (hgrow : (w.alloc o).grownBy w3 F[k].ownBlock) (hown : w3.ownsRow 0 (fty k) 1 (.slice (some ⟨gg, 0, none⟩) (X[k].length + 1) cp) (X[k].length + 1) (X[k] ++ [x])) (hat : F[k].ownBlock = some gg ∨ gg = w.heap.size + 1) :
    BookAt (w3.setCell ⟨wb, k, none⟩ (.slice (some ⟨gg, 0, none⟩) (X[k].length + 1) cp)) wb (F.set k (.slice (some ⟨gg, 0, none⟩) (X[k].length + 1) cp)) (X.set k (X[k] ++ [x])) ∧
      Fr (wb :: F[k].ownBlock.toList) w (w3.setCell ⟨wb, k, none⟩ (.slice (some ⟨gg, 0, none⟩) (X[k].length + 1) cp)) := by
  have hwb : wb < w.heap.size := (Array.getElem?_eq_some_iff.1 h.blk).1
  have hF : Fr F[k].ownBlock.toList w w3 := by
    refine (Fr.refl F[k].ownBlock.toList w).alloc o |>.grown hgrow (fun j hj => ?_)
    left; rw [hj]; simp
  have hk4 : k < 4 := by have := h.lf; omega
  have hnb : wb ∉ F[k].ownBlock.toList := fun hm => by
    obtain ⟨cs, fr, hc⟩ := own_ty (h.own k hf hx) (g := wb) (by simpa using hm)
    rw [h.blk] at hc
    simp at hc
    exact fty_ne k hk4 hc.2.1.symm
  have hgb : gg ≠ wb := by
    rintro rfl
    rcases hat with h1 | h1
    · exact hnb (by rw [h1]; simp)
    · omega
  have hb3 : w3.heap[wb]? = some (.cells F.toArray 63 (0, 0)) := (hF.block wb hwb hnb).trans h.blk
  refine ⟨⟨by simpa using h.lf, by simpa using h.lx, ?_, fun j hf' hx' => ?_⟩, (hF.mono (T := wb :: F[k].ownBlock.toList) (fun i hi => List.mem_cons_of_mem _ hi)).setCell (p := ⟨wb, k, none⟩) (.inl (List.mem_cons_self (a := wb))) _⟩
  · rw [heap_setCell_same _ _ _ _ _ _ hb3]; simp
  · by_cases hjk : k = j
    · subst hjk
      simp only [List.getElem_set_self, List.length_append, List.length_singleton]
      exact own_keep2 hown (fun g hg => heap_setCell_other _ _ _ _ (by simp only [Value.ownBlock, Option.some.injEq] at hg; rw [← hg]; exact hgb))
    · have hf2 : j < F.length := by simpa using hf'
      have hx2 : j < X.length := by simpa using hx'
      have hj4 : j < 4 := by have := h.lf; omega
      simp only [List.getElem_set_ne hjk]
      refine own_keep2 (h.own j hf2 hx2) (fun g hg => ?_)
      obtain ⟨cs, fr, hc⟩ := own_ty (h.own j hf2 hx2) hg
      have hgw : g ≠ wb := by
        rintro rfl
        rw [h.blk] at hc
        simp at hc
        exact fty_ne j hj4 hc.2.1.symm
      rw [heap_setCell_other _ _ _ _ hgw]
      refine hF.block g (Array.getElem?_eq_some_iff.1 hc).1 (fun hm => ?_)
      obtain ⟨cs', fr', hc'⟩ := own_ty (h.own k hf hx) (g := g) (by simpa using hm)
      rw [hc] at hc'
      simp at hc'
      exact hjk (fty_inj k j hk4 hj4 hc'.2.1.symm)

end Go.Proofs.YtcconhgbefhdeaaDoor
