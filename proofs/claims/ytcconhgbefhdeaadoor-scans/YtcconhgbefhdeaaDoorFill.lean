import Derived.Test.YtcconhgbefhdeaaDoorBook
import Derived.ArgAppend
namespace Go.Proofs.YtcconhgbefhdeaaDoor
open Go.RowKit

/-- A list whose things are all the same stays so where that thing is written once more. -/
theorem own_fill1 {w : World} {e : TypeId} {X m : Value} {N g o : Nat} (h : w.ownsRow 0 e 1 X N (List.replicate N m)) : (w.setCell ⟨g, o, none⟩ m).ownsRow 0 e 1 X N (List.replicate N m) := by
  refine ⟨h.1, ?_⟩
  rcases h.2 with h1 | ⟨b, cap, cur, hv, hb, hh, c1, c2, c3, c4⟩
  · exact .inl h1
  · by_cases e1 : b = g
    · subst e1
      refine .inr ⟨b, cap, cur.setIfInBounds o m, hv, hb, heap_setCell_same _ _ _ _ _ _ hh, c1, c2, by simpa using c3, ?_⟩
      rw [Nat.mul_one] at c4 ⊢
      rw [Array.toList_setIfInBounds, List.take_set, c4]
      exact List.ext_getElem (by simp) (fun i h1 h2 => by simp)
    · exact .inr ⟨b, cap, cur, hv, hb, (heap_setCell_other _ _ _ _ e1).trans hh, c1, c2, c3, c4⟩

theorem own_fill {w : World} {e : TypeId} {X m : Value} {N g : Nat} (j o : Nat) (h : w.ownsRow 0 e 1 X N (List.replicate N m)) : (w.setCells g o (List.replicate j m)).ownsRow 0 e 1 X N (List.replicate N m) := by
  induction j generalizing w o with
  | zero => exact h
  | succ j ih => exact ih (o + 1) (own_fill1 h)

theorem own_more1 {w : World} {e : TypeId} {m : Value} {n g cap : Nat} (h : w.ownsRow 0 e 1 (.slice (some ⟨g, 0, none⟩) n cap) n (List.replicate n m)) (hn : n < cap) : (w.setCell ⟨g, n, none⟩ m).ownsRow 0 e 1 (.slice (some ⟨g, 0, none⟩) (n + 1) cap) (n + 1) (List.replicate (n + 1) m) := by
  refine ⟨by simp, ?_⟩
  rcases h.2 with ⟨h1, _⟩ | ⟨b, cap', cur, hv, hb, hh, c1, c2, c3, c4⟩
  · cases h1
  · simp only [Value.slice.injEq, Option.some.injEq, Addr.mk.injEq, true_and, and_true] at hv
    obtain ⟨rfl, rfl⟩ := hv
    refine .inr ⟨g, cap, cur.setIfInBounds n m, rfl, hb, heap_setCell_same _ _ _ _ _ _ hh, by omega, c2, by simpa using c3, ?_⟩
    rw [Nat.mul_one] at c4 ⊢
    rw [Array.toList_setIfInBounds, take_set1 _ _ _ (by rw [Array.length_toList]; omega), c4, List.replicate_succ']

theorem own_more {w : World} {e : TypeId} {m : Value} {g cap : Nat} (j n : Nat) (h : w.ownsRow 0 e 1 (.slice (some ⟨g, 0, none⟩) n cap) n (List.replicate n m)) (hn : n + j ≤ cap) : (w.setCells g n (List.replicate j m)).ownsRow 0 e 1 (.slice (some ⟨g, 0, none⟩) (n + j) cap) (n + j) (List.replicate (n + j) m) := by
  induction j generalizing w n with
  | zero => exact h
  | succ j ih =>
    have := ih (n + 1) (own_more1 h (by omega)) (by omega)
    rw [show n + (j + 1) = n + 1 + j by omega]
    exact this

theorem Fr.setCells {S : List Nat} {a w : World} (h : Fr S a w) {g : Nat} (hg : g ∈ S) (vs : List Value) (o : Nat) : Fr S a (w.setCells g o vs) := by
  induction vs generalizing w o with
  | nil => exact h
  | cons v vs ih => exact ih (h.setCell (p := ⟨g, o, none⟩) (.inl hg) v) (o + 1)

theorem own_base {w : World} {base : Nat} {e : TypeId} {size : Nat} {v : Value} {n : Nat} {xs : List Value} (h : w.ownsRow base e size v n xs) : w.ownsRow 0 e size v n xs := by
  refine ⟨h.1, ?_⟩
  rcases h.2 with h1 | ⟨b, cap, cur, hv, hb, rest⟩
  · exact .inl h1
  · exact .inr ⟨b, cap, cur, hv, Nat.zero_le _, rest⟩

/-- One thing appended some times to a list that holds nothing else: whether there is room or not. -/
theorem wpList_append_same {P : Program} (w : World) {ops : Array Oper} {rest : List Oper} {o : Oper} {a : Act} {Q : Exit → Act → World → Prop}
    (hg : o.guard = none) (s x : Operand) (t : TypeId) (hop : o.op = Op.call { callee := Callee.builtin Builtin.append, args := #[s, x], argTypes := #[t, t] })
    (e : TypeId) (i : TypeInfo) (z : Value) (bytes : Nat) (h1 : P.underlying t = some (.slice e)) (h2 : P.info? e = some i) (h3 : i.zero = some z) (h4 : i.size = 1) (h5 : i.bytes = bytes) (h6 : z.cells.size = 1)
    (v : Value) (n : Nat) (m : Value) (hs : a.eval s = v) (hown : w.ownsRow 0 e 1 v n (List.replicate n m))
    (ad : Addr) (j c : Nat) (hx : a.eval x = .slice (some ad) j c) (hc : ∀ k u, (List.replicate j m)[k]? = some u → w.cell? (ad.add k) = some u) (h1c : m.oneCell' = true) (hj : 0 < j) (b1 : n + j ≤ maxLen) (b2 : (n + j) * bytes ≤ 140737488355328)
    (hK : ∀ g cap w', w'.ownsRow 0 e 1 (.slice (some ⟨g, 0, none⟩) (n + j) cap) (n + j) (List.replicate (n + j) m) → (∀ X N, w.ownsRow 0 e 1 X N (List.replicate N m) → w'.ownsRow 0 e 1 X N (List.replicate N m)) → Fr v.ownBlock.toList w w' → (v.ownBlock = some g ∨ w.heap.size ≤ g) → wpList P ops Q rest (a.put o.dst (.slice (some ⟨g, 0, none⟩) (n + j) cap)) w') :
    wpList P ops Q (o :: rest) a w := by
  have hrep : List.replicate n m ++ List.replicate j m = List.replicate (n + j) m := by simp
  have grown : ∀ v' w', w'.ownsRow w.heap.size e 1 v' (n + j) (List.replicate n m ++ List.replicate j m) → w.grownBy w' none → wpList P ops Q rest (a.put o.dst v') w' := fun v' w' ho hgr => by
    obtain ⟨g, cap, rfl, hg1, hg2⟩ := ho.form (by omega)
    rw [hrep] at ho
    have hb := below_grown hgr
    exact hK g cap w' (own_base ho) (fun X N h => ownsRow_below h hb) (Fr.of_below hb) (.inr hg1)
  have hall : ∀ u ∈ List.replicate j m, u.oneCell' = true := fun u hu => by rw [List.eq_of_mem_replicate hu]; exact h1c
  rcases hown.2 with ⟨hv, h0⟩ | ⟨g, cap, cur, hv, hb, hh, c1, c2, c3, c4⟩
  · subst h0
    exact wpList_append_grows w hg s x t hop e i z 1 bytes h1 h2 h3 h4 h5 h6 (by omega) none 0 0 (List.replicate 0 m) (hs.trans hv) (fun _ => ⟨rfl, rfl⟩) (by simp) (fun b hb => by cases hb) ad j c (List.replicate j m) hx (by simp) hc hall (by omega) b1 b2 grown
  · have hadd : ∀ k, (⟨g, 0, none⟩ : Addr).add k = ⟨g, k, none⟩ := fun k => by unfold Addr.add; split <;> simp_all
    refine wpList_append_arg w hg s x t hop e i z 1 bytes h1 h2 h3 h4 h5 h6 (by omega) g 0 n cap (List.replicate n m) (hs.trans hv) (by simp) (fun k u hu => ?_) ad j c (List.replicate j m) hx (by simp) hc hall (fun hr k hk => ?_) b1 b2 (fun hr => ?_) (fun _ => grown)
    · have := hown.cells (g := g) (by rw [hv]; rfl) k u hu
      rw [hadd] at this
      simpa using this
    · have hk' : k < j := by simpa using hk
      constructor
      · rw [cell_of_row _ _ _ _ _ _ hh, Array.getElem?_eq_getElem (by omega)]; rfl
      · simp [World.frozen?, hh]
    · rw [show 0 + n * 1 = n by omega]
      subst hv
      exact hK g cap _ (own_more j n hown hr) (fun X N h => own_fill j n h) ((Fr.refl _ _).setCells (by simp [Value.ownBlock]) _ _) (.inl rfl)

end Go.Proofs.YtcconhgbefhdeaaDoor
