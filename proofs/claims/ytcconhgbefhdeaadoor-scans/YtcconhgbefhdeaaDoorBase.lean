import Derived.Test.YtcconhgbefhdeaaDoorProg
import Derived.WalkKit
import Derived.WalkSpells
import Derived.WalkLawsBesides
import Derived.Deep.AppendLies
namespace Go.Proofs.YtcconhgbefhdeaaDoor
open Go.RowKit

/-- All blocks that were there, but for those listed, are as they were. -/
structure Fr (S : List Nat) (w w' : World) : Prop where
  os : w'.os = w.os
  tape : w'.tape = w.tape
  output : w'.output = w.output
  size : w.heap.size ≤ w'.heap.size
  block : ∀ k, k < w.heap.size → k ∉ S → w'.heap[k]? = w.heap[k]?

theorem Fr.refl (S : List Nat) (w : World) : Fr S w w := ⟨rfl, rfl, rfl, Nat.le_refl _, fun _ _ _ => rfl⟩
theorem Fr.trans {S T : List Nat} {a b c : World} (h : Fr S a b) (k : Fr T b c) (hT : ∀ i ∈ T, i ∈ S ∨ a.heap.size ≤ i) : Fr S a c :=
  ⟨k.os.trans h.os, k.tape.trans h.tape, k.output.trans h.output, Nat.le_trans h.size k.size, fun i hi hn =>
    (k.block i (Nat.lt_of_lt_of_le hi h.size) (fun hm => (hT i hm).elim hn (fun h => by omega))).trans (h.block i hi hn)⟩
theorem Fr.then {S : List Nat} {a b c : World} (h : Fr S a b) (k : Below b.heap.size b c) : Fr S a c :=
  ⟨k.os.trans h.os, k.tape.trans h.tape, k.output.trans h.output, Nat.le_trans h.size k.size, fun i hi hn =>
    (k.block i (Nat.lt_of_lt_of_le hi h.size)).trans (h.block i hi hn)⟩
theorem Fr.of_below {S : List Nat} {a b : World} (k : Below a.heap.size a b) : Fr S a b := (Fr.refl S a).then k
theorem Fr.mono {S T : List Nat} {a b : World} (h : Fr S a b) (hT : ∀ i ∈ S, i ∈ T) : Fr T a b :=
  ⟨h.os, h.tape, h.output, h.size, fun i hi hn => h.block i hi (fun hm => hn (hT i hm))⟩
theorem Fr.below {S : List Nat} {a b : World} {B : Nat} (h : Fr S a b) (hB : B ≤ a.heap.size) (hS : ∀ i ∈ S, B ≤ i) : Below B a b :=
  ⟨h.os, h.tape, h.output, h.size, fun k hk => h.block k (by omega) (fun hm => by have := hS k hm; omega)⟩
theorem Fr.setCell {S : List Nat} {a w : World} (h : Fr S a w) {p : Addr} (hp : p.block ∈ S ∨ a.heap.size ≤ p.block) (u : Value) : Fr S a (w.setCell p u) :=
  ⟨h.os, h.tape, h.output, Nat.le_trans h.size (by simp [World.setCell]), fun k hk hn => (Below.heap_setCell _ _ _ _ (fun e => by
    subst e; rcases hp with hp | hp
    · exact hn hp
    · omega)).trans (h.block k hk hn)⟩
theorem Fr.alloc {S : List Nat} {a w : World} (h : Fr S a w) (o : Obj) : Fr S a (w.alloc o) :=
  h.then ((Below.refl _ _).alloc (Nat.le_refl _) _)
theorem Fr.drew {S : List Nat} {a w : World} (h : Fr S a w) : Fr S a w.drew := ⟨h.os, h.tape, h.output, h.size, h.block⟩
theorem Fr.grown {S : List Nat} {a w w' : World} {row : Option Nat} (h : Fr S a w) (hg : w.grownBy w' row) (hr : ∀ k, row = some k → k ∈ S ∨ a.heap.size ≤ k) : Fr S a w' :=
  ⟨hg.os.trans h.os, hg.tape.trans h.tape, hg.output.trans h.output, Nat.le_trans h.size hg.size, fun k hk hn =>
    (hg.block k (Nat.lt_of_lt_of_le hk h.size) (fun e => by
      rcases hr k e.symm with h1 | h1
      · exact hn h1
      · omega)).trans (h.block k hk hn)⟩
theorem Fr.cell {S : List Nat} {a w : World} (h : Fr S a w) (b o : Nat) (hb : b < a.heap.size) (hn : b ∉ S) : w.cell? ⟨b, o, none⟩ = a.cell? ⟨b, o, none⟩ :=
  World.cell?_of_block (w := a) (h.block b hb hn)

theorem bcell {W w1 : World} (hb : Below W.heap.size W w1) : (∀ b o, b < W.heap.size → w1.cell? ⟨b, o, none⟩ = W.cell? ⟨b, o, none⟩) ∧ (∀ b o, b < W.heap.size → w1.frozen? ⟨b, o, none⟩ = W.frozen? ⟨b, o, none⟩) :=
  ⟨fun b o h => hb.cell (p := ⟨b, o, none⟩) h, fun b o h => hb.frozen (p := ⟨b, o, none⟩) h⟩

theorem frozen_alloc (w : World) (o : Obj) (b i : Nat) (h : b < w.heap.size) : (w.alloc o).frozen? ⟨b, i, none⟩ = w.frozen? ⟨b, i, none⟩ :=
  World.frozen?_of_block (w := w) (Below.heap_alloc w o b h)
theorem cell_alloc (w : World) (o : Obj) (b i : Nat) (h : b < w.heap.size) : (w.alloc o).cell? ⟨b, i, none⟩ = w.cell? ⟨b, i, none⟩ :=
  World.cell?_of_block (w := w) (Below.heap_alloc w o b h)

theorem ret_int {k : IntKind} {a b : Int} (h : a = b) : Ending.returned (.int k a) = .returned (.int k b) := by rw [h]
theorem ret_bool {a b : Bool} (h : a = b) : Ending.returned (.bool a) = .returned (.bool b) := by rw [h]

/-- A row's values, as cells. -/
def vcells : List (Int × ByteArray) → List Value
  | [] => []
  | p :: r => .int .i64 p.1 :: .string p.2 :: vcells r

theorem vcells_length (r : List (Int × ByteArray)) : (vcells r).length = 2 * r.length := by
  induction r with
  | nil => rfl
  | cons p r ih => simp [vcells, ih]; omega

theorem vcells_append (a b : List (Int × ByteArray)) : vcells (a ++ b) = vcells a ++ vcells b := by
  induction a with
  | nil => rfl
  | cons p a ih => simp [vcells, ih]

theorem vcells_at (r : List (Int × ByteArray)) (i : Nat) (h : i < r.length) : (vcells r)[2 * i]? = some (.int .i64 r[i].1) ∧ (vcells r)[2 * i + 1]? = some (.string r[i].2) := by
  induction r generalizing i with
  | nil => simp at h
  | cons p r ih =>
    cases i with
    | zero => simp [vcells]
    | succ i =>
      have := ih i (by simpa using h)
      have e1 : 2 * (i + 1) = (2 * i) + 1 + 1 := by omega
      rw [e1]
      simpa [vcells] using this

theorem vcells_one (r : List (Int × ByteArray)) : ∀ u ∈ vcells r, u.oneCell' = true := by
  induction r with
  | nil => simp [vcells]
  | cons p r ih =>
    intro u hu
    simp [vcells] at hu
    rcases hu with rfl | rfl | hu
    · rfl
    · rfl
    · exact ih u hu

theorem take_set2 (l : List Value) (k : Nat) (a b : Value) (h : k * 2 + 1 < l.length) : ((l.set (k * 2) a).set (k * 2 + 1) b).take (2 * (k + 1)) = l.take (2 * k) ++ [a, b] := by
  apply List.ext_getElem?
  intro i
  rw [List.getElem?_take, List.getElem?_append]
  simp only [List.length_take, List.getElem?_set, List.length_set, List.getElem?_take]
  by_cases h1 : i < 2 * k
  · rw [if_pos (by omega), if_neg (by omega), if_neg (by omega), if_pos (by omega), if_pos h1]
  · by_cases h2 : i = 2 * k
    · subst h2
      rw [if_pos (by omega), if_neg (by omega), if_pos (by omega), if_pos (by omega), if_neg (by omega), show 2 * k - min (2 * k) l.length = 0 by omega]
      rfl
    · by_cases h3 : i = 2 * k + 1
      · subst h3
        rw [if_pos (by omega), if_pos (by omega), if_pos (by omega), if_neg (by omega), show 2 * k + 1 - min (2 * k) l.length = 1 by omega]
        rfl
      · rw [if_neg (by omega), if_neg (by omega)]
        symm
        apply List.getElem?_eq_none
        simp; omega

theorem vcells_take_succ (r : List (Int × ByteArray)) (k : Nat) (h : k < r.length) : vcells (r.take (k + 1)) = vcells (r.take k) ++ [.int .i64 r[k].1, .string r[k].2] := by
  rw [List.take_succ_eq_append_getElem h, vcells_append]; rfl

/-- Values that lie in memory from block g on. -/
def RowIn (w : World) (g : Nat) (r : List (Int × ByteArray)) : Prop :=
  ∀ i (h : i < r.length), w.cell? ⟨g, i * 2, none⟩ = some (.int .i64 r[i].1) ∧ w.cell? ⟨g, i * 2 + 1, none⟩ = some (.string r[i].2)

theorem RowIn.of_block {w : World} {g : Nat} {r : List (Int × ByteArray)} {cs : Array Value} {t : TypeId} {fr : Nat × Nat} (hg : w.heap[g]? = some (.cells cs t fr)) (ht : cs.toList.take (2 * r.length) = vcells r) : RowIn w g r := by
  intro i h
  obtain ⟨h1, h2⟩ := vcells_at r i h
  rw [← ht, List.getElem?_take, if_pos (by omega)] at h1 h2
  rw [cell_of_row w g _ cs t fr hg, cell_of_row w g _ cs t fr hg, Nat.mul_comm i 2]
  exact ⟨by simpa using h1, by simpa using h2⟩

theorem RowIn.lt {w : World} {g : Nat} {r : List (Int × ByteArray)} (h : RowIn w g r) (hr : 0 < r.length) : g < w.heap.size :=
  World.block_lt_of_cell? w ⟨g, 0 * 2, none⟩ (h 0 hr).1

theorem RowIn.keep {w w' : World} {g : Nat} {r : List (Int × ByteArray)} (h : RowIn w g r) (hb : w'.heap[g]? = w.heap[g]?) : RowIn w' g r := fun i hi => by
  obtain ⟨a, b⟩ := h i hi
  exact ⟨(World.cell?_of_block (w := w) (a := ⟨g, _, none⟩) hb).trans a, (World.cell?_of_block (w := w) (a := ⟨g, _, none⟩) hb).trans b⟩

end Go.Proofs.YtcconhgbefhdeaaDoor
