import Derived.Test.YtcconhgbefhdeaaDoorScansP08
import Derived.ArgAppend
namespace Go.Proofs.YtcconhgbefhdeaaDoor
open Go.RowKit
attribute [local go_sem ↓] Go.wp_at_zero Go.wp_at_succ

/-- The mark of the i-th list that came out. -/
def markI (i : Nat) : Int := -1000 - ((i / 4 : Nat) : Int)

def marks (i n : Nat) : List (Int × ByteArray) := List.replicate n (markI i, ⟨#[]⟩)

/-- A row that came out, and what was appended to it: as it was written. -/
def KeptRow (w : World) (P : Nat → Prop) (i : Nat) (v : Value) : Prop :=
  ∃ a n c, v = .slice a n c ∧ n ≤ 1000000000 ∧ (n = 0 ∨ ∃ g, a = some ⟨g, 0, none⟩ ∧ P g ∧ RowIn w g (marks i n))

/-- A list of rows that came out. -/
def KeptRows (w : World) (P : Nat → Prop) (i : Nat) (v : Value) : Prop :=
  ∃ a n c, v = .slice a n c ∧ n ≤ 1000000000 ∧ (n = 0 ∨ ∃ g, a = some ⟨g, 0, none⟩ ∧ P g ∧ ∀ k, k < n → ∃ m cm, P m ∧ w.cell? ⟨g, k, none⟩ = some (.slice (some ⟨m, 0, none⟩) 1 cm) ∧ RowIn w m (marks i 1))

/-- A list of slices as it lies in memory. -/
def ListIn (w : World) (a : Option Addr) (vs : List Value) : Prop := vs = [] ∨ ∃ g, a = some ⟨g, 0, none⟩ ∧ ∀ k (h : k < vs.length), w.cell? ⟨g, k, none⟩ = some vs[k]

set_option maxRecDepth 100000 in
set_option maxHeartbeats 2000000 in
theorem still_ok (wb lc rc : Nat) (la ra : Option Addr) (ls rws : List Value) (P : Nat → Prop) (w : World) (c2 : w.cell? ⟨wb, 2, none⟩ = some (.slice la ls.length lc)) (c3 : w.cell? ⟨wb, 3, none⟩ = some (.slice ra rws.length rc))
    (hl : ListIn w la ls) (hr : ListIn w ra rws) (bl : ls.length ≤ 1000000000000) (br : rws.length ≤ 1000000000000)
    (kl : ∀ i (h : i < ls.length), KeptRow w P i ls[i]) (kr : ∀ i (h : i < rws.length), KeptRows w P i rws[i]) :
    Calls Tryd.prog 23 #[.pointer (some ⟨wb, 0, none⟩)] w fun e w' => e = .returned (.bool true) ∧ w' = w := by
  have HL : Hid (ListIn w la ls) := hl
  have HR : Hid (ListIn w ra rws) := hr
  have KL : Hid (∀ i (h : i < ls.length), KeptRow w P i ls[i]) := kl
  have KR : Hid (∀ i (h : i < rws.length), KeptRows w P i rws[i]) := kr
  clear hl hr kl kr
  go_enter Tryd.func23, Tryd.ntmps23
  go_wp2_with fail
  go_loop [3] (fun i => ∃ k : Nat, k ≤ ls.length ∧ i = .int .i64 k) (fun i => ls.length - (intOf i).toNat)
  case atStart => exact ⟨0, Nat.zero_le _, rfl⟩
  case round =>
    obtain ⟨k, hk, rfl⟩ := hrel
    by_cases hlt : k < ls.length
    · rcases HL.out with h0 | ⟨g, rfl, hg⟩
      · rw [h0] at hlt; simp at hlt
      obtain ⟨a, n, c, hv, hn, hkr⟩ := KL.out k hlt
      have d1 : w.cell? ⟨g, k, none⟩ = some (.slice a n c) := by rw [hg k hlt, hv]
      have i0 : (0 : Int) ≤ (k : Int) := by omega
      have i1 : (k : Int) < (ls.length : Int) := by omega
      clear hg hv
      have HKR : Hid (n = 0 ∨ ∃ g, a = some ⟨g, 0, none⟩ ∧ P g ∧ RowIn w g (marks k n)) := hkr
      clear hkr
      go_wp2_with fail
      go_loop [4] (fun j => ∃ m : Nat, m ≤ n ∧ j = .int .i64 m) (fun j => n - (intOf j).toNat)
      case atStart => exact ⟨0, Nat.zero_le _, rfl⟩
      case round =>
        obtain ⟨m, hm, rfl⟩ := hrel
        by_cases hml : m < n
        · rcases HKR.out with h0 | ⟨rg, rfl, hP, hrow⟩
          · omega
          obtain ⟨x1, x2⟩ := hrow m (by unfold marks; simpa using hml)
          have e : (marks k n)[m]'(by unfold marks; simpa using hml) = (markI k, ⟨#[]⟩) := by unfold marks; simp
          rw [e] at x1 x2
          have j0 : (0 : Int) ≤ (m : Int) := by omega
          have j1 : (m : Int) < (n : Int) := by omega
          have hmk : markI k = -1000 - (k : Int) / 4 := by unfold markI; omega
          have hmb : -1000 - (k : Int) / 4 ≤ 0 ∧ -9000000000000 ≤ -1000 - (k : Int) / 4 := by omega
          rw [hmk] at x1
          clear hrow e hP hmk
          go_wp2
          go_round
          case rel => exact ⟨m + 1, by omega, by go_num⟩
          case measure => simp [intOf]; omega
        · have j1 : ¬ (m : Int) < (n : Int) := by omega
          go_wp2
          go_round
          case rel => exact ⟨k + 1, by omega, by go_num⟩
          case measure => simp [intOf]; omega
    · have i1 : ¬ (k : Int) < (ls.length : Int) := by omega
      go_wp2_with fail
      go_loop [5] (fun i => ∃ k : Nat, k ≤ rws.length ∧ i = .int .i64 k) (fun i => rws.length - (intOf i).toNat)
      case atStart => exact ⟨0, Nat.zero_le _, rfl⟩
      case round =>
        obtain ⟨k, hk, rfl⟩ := hrel
        by_cases hlt : k < rws.length
        · rcases HR.out with h0 | ⟨g, rfl, hg⟩
          · rw [h0] at hlt; simp at hlt
          obtain ⟨a, n, c, hv, hn, hkr⟩ := KR.out k hlt
          have d1 : w.cell? ⟨g, k, none⟩ = some (.slice a n c) := by rw [hg k hlt, hv]
          have i0 : (0 : Int) ≤ (k : Int) := by omega
          have i1 : (k : Int) < (rws.length : Int) := by omega
          clear hg hv
          have HKR : Hid (n = 0 ∨ ∃ g, a = some ⟨g, 0, none⟩ ∧ P g ∧ ∀ j, j < n → ∃ m cm, P m ∧ w.cell? ⟨g, j, none⟩ = some (.slice (some ⟨m, 0, none⟩) 1 cm) ∧ RowIn w m (marks k 1)) := hkr
          clear hkr
          go_wp2_with fail
          go_loop [6] (fun j => ∃ m : Nat, m ≤ n ∧ j = .int .i64 m) (fun j => n - (intOf j).toNat)
          case atStart => exact ⟨0, Nat.zero_le _, rfl⟩
          case round =>
            obtain ⟨m, hm, rfl⟩ := hrel
            by_cases hml : m < n
            · rcases HKR.out with h0 | ⟨rg, rfl, hP, hrow⟩
              · omega
              obtain ⟨mg, cm, hPm, hmc, hmr⟩ := hrow m hml
              obtain ⟨x1, x2⟩ := hmr 0 (by unfold marks; simp)
              have e : (marks k 1)[0]'(by unfold marks; simp) = (markI k, ⟨#[]⟩) := by unfold marks; simp
              rw [e] at x1 x2
              rw [Nat.zero_mul] at x1
              have j0 : (0 : Int) ≤ (m : Int) := by omega
              have j1 : (m : Int) < (n : Int) := by omega
              have hmk : markI k = -1000 - (k : Int) / 4 := by unfold markI; omega
              have hmb : -1000 - (k : Int) / 4 ≤ 0 ∧ -9000000000000 ≤ -1000 - (k : Int) / 4 := by omega
              rw [hmk] at x1
              clear hrow e hP hmk hPm hmr
              go_wp2
              go_round
              case rel => exact ⟨m + 1, by omega, by go_num⟩
              case measure => simp [intOf]; omega
            · have j1 : ¬ (m : Int) < (n : Int) := by omega
              go_wp2
              go_round
              case rel => exact ⟨k + 1, by omega, by go_num⟩
              case measure => simp [intOf]; omega
        · have i1 : ¬ (k : Int) < (rws.length : Int) := by omega
          go_wp2
          go_ret
          exact ⟨rfl, rfl⟩

end Go.Proofs.YtcconhgbefhdeaaDoor

namespace Go.Proofs.YtcconhgbefhdeaaDoor
open Go.RowKit

/-- The elements' types of the four lists that a World holds. -/
def fty : Nat → TypeId
  | 0 => 38
  | 1 => 66
  | 2 => 25
  | _ => 39

theorem fty_inj (j k : Nat) (hj : j < 4) (hk : k < 4) (h : fty j = fty k) : j = k := by
  have h1 : j = 0 ∨ j = 1 ∨ j = 2 ∨ j = 3 := by omega
  have h2 : k = 0 ∨ k = 1 ∨ k = 2 ∨ k = 3 := by omega
  rcases h1 with rfl | rfl | rfl | rfl <;> rcases h2 with rfl | rfl | rfl | rfl <;> first | rfl | (exfalso; revert h; decide)

theorem fty_ne (k : Nat) (hk : k < 4) : fty k ≠ 63 := by
  have h2 : k = 0 ∨ k = 1 ∨ k = 2 ∨ k = 3 := by omega
  rcases h2 with rfl | rfl | rfl | rfl <;> decide

/-- The World's own struct and its four lists. -/
structure BookAt (w : World) (wb : Nat) (F : List Value) (X : List (List Value)) : Prop where
  lf : F.length = 4
  lx : X.length = 4
  blk : w.heap[wb]? = some (.cells F.toArray 63 (0, 0))
  own : ∀ k (hf : k < F.length) (hx : k < X.length), w.ownsRow 0 (fty k) 1 F[k] X[k].length X[k]

theorem own_ty {w : World} {base : Nat} {e : TypeId} {size : Nat} {v : Value} {n : Nat} {xs : List Value} (h : w.ownsRow base e size v n xs) {g : Nat} (hg : v.ownBlock = some g) : ∃ cs fr, w.heap[g]? = some (.cells cs e fr) := by
  rcases h.2 with ⟨h1, _⟩ | ⟨gg, cp, cur, h1, _, h2, _⟩
  · rw [h1] at hg; cases hg
  · rw [h1] at hg
    simp only [Value.ownBlock, Option.some.injEq] at hg
    rw [← hg]; exact ⟨_, _, h2⟩

theorem own_keep2 {w w' : World} {base : Nat} {e : TypeId} {size : Nat} {v : Value} {n : Nat} {xs : List Value} (h : w.ownsRow base e size v n xs) (hb : ∀ g, v.ownBlock = some g → w'.heap[g]? = w.heap[g]?) : w'.ownsRow base e size v n xs := by
  refine ⟨h.1, ?_⟩
  rcases h.2 with h1 | ⟨g, cap, cur, hv, hg, hh, rest⟩
  · exact .inl h1
  · exact .inr ⟨g, cap, cur, hv, hg, (hb g (by rw [hv]; rfl)).trans hh, rest⟩

theorem BookAt.keep {w w' : World} {wb : Nat} {F : List Value} {X : List (List Value)} (h : BookAt w wb F X) (hb : ∀ k, (k = wb ∨ ∃ v ∈ F, v.ownBlock = some k) → w'.heap[k]? = w.heap[k]?) : BookAt w' wb F X :=
  ⟨h.lf, h.lx, (hb wb (.inl rfl)).trans h.blk, fun k hf hx => own_keep2 (h.own k hf hx) (fun g hg => hb g (.inr ⟨_, List.getElem_mem hf, hg⟩))⟩

/-- One thing more at the end of one of the four lists. -/
theorem BookAt.push {w w3 : World} {wb : Nat} {F : List Value} {X : List (List Value)} {o : Obj} {k gg cp : Nat} {x : Value} (h : BookAt w wb F X) (hf : k < F.length) (hx : k < X.length)
    (hgrow : (w.alloc o).grownBy w3 F[k].ownBlock) (hown : w3.ownsRow 0 (fty k) 1 (.slice (some ⟨gg, 0, none⟩) (X[k].length + 1) cp) (X[k].length + 1) (X[k] ++ [x])) (hat : F[k].ownBlock = some gg ∨ gg = w.heap.size + 1) :
    BookAt (w3.setCell ⟨wb, k, none⟩ (.slice (some ⟨gg, 0, none⟩) (X[k].length + 1) cp)) wb (F.set k (.slice (some ⟨gg, 0, none⟩) (X[k].length + 1) cp)) (X.set k (X[k] ++ [x])) ∧
      Fr (wb :: F[k].ownBlock.toList) w (w3.setCell ⟨wb, k, none⟩ (.slice (some ⟨gg, 0, none⟩) (X[k].length + 1) cp)) := by
  have hwb : wb < w.heap.size := (Array.getElem?_eq_some_iff.1 h.blk).1
  have hF : Fr F[k].ownBlock.toList w w3 := by
    refine (Fr.refl F[k].ownBlock.toList w).alloc o |>.grown hgrow (fun j hj => ?_)
    left; rw [hj]; simp
  have hk4 : k < 4 := by have := h.lf; omega
  have hnb : wb ∉ F[k].ownBlock.toList := fun hm => by
    obtain ⟨cs, fr, hc⟩ := own_ty (h.own k hf hx) (g := wb) (by simpa using hm)
    rw [h.blk] at hc
    simp at hc
    exact fty_ne k hk4 hc.2.1.symm
  have hgb : gg ≠ wb := by
    rintro rfl
    rcases hat with h1 | h1
    · exact hnb (by rw [h1]; simp)
    · omega
  have hb3 : w3.heap[wb]? = some (.cells F.toArray 63 (0, 0)) := (hF.block wb hwb hnb).trans h.blk
  refine ⟨⟨by simpa using h.lf, by simpa using h.lx, ?_, fun j hf' hx' => ?_⟩, (hF.mono (T := wb :: F[k].ownBlock.toList) (fun i hi => List.mem_cons_of_mem _ hi)).setCell (p := ⟨wb, k, none⟩) (.inl (List.mem_cons_self (a := wb))) _⟩
  · rw [heap_setCell_same _ _ _ _ _ _ hb3]; simp
  · by_cases hjk : k = j
    · subst hjk
      simp only [List.getElem_set_self, List.length_append, List.length_singleton]
      exact own_keep2 hown (fun g hg => heap_setCell_other _ _ _ _ (by simp only [Value.ownBlock, Option.some.injEq] at hg; rw [← hg]; exact hgb))
    · have hf2 : j < F.length := by simpa using hf'
      have hx2 : j < X.length := by simpa using hx'
      have hj4 : j < 4 := by have := h.lf; omega
      simp only [List.getElem_set_ne hjk]
      refine own_keep2 (h.own j hf2 hx2) (fun g hg => ?_)
      obtain ⟨cs, fr, hc⟩ := own_ty (h.own j hf2 hx2) hg
      have hgw : g ≠ wb := by
        rintro rfl
        rw [h.blk] at hc
        simp at hc
        exact fty_ne j hj4 hc.2.1.symm
      rw [heap_setCell_other _ _ _ _ hgw]
      refine hF.block g (Array.getElem?_eq_some_iff.1 hc).1 (fun hm => ?_)
      obtain ⟨cs', fr', hc'⟩ := own_ty (h.own k hf hx) (g := g) (by simpa using hm)
      rw [hc] at hc'
      simp at hc'
      exact hjk (fty_inj k j hk4 hj4 hc'.2.1.symm)

end Go.Proofs.YtcconhgbefhdeaaDoor

namespace Go.Proofs.YtcconhgbefhdeaaDoor
open Go.RowKit

/-- A list whose things are all the same stays so where that thing is written once more. -/
theorem own_fill1 {w : World} {e : TypeId} {X m : Value} {N g o : Nat} (h : w.ownsRow 0 e 1 X N (List.replicate N m)) : (w.setCell ⟨g, o, none⟩ m).ownsRow 0 e 1 X N (List.replicate N m) := by
  refine ⟨h.1, ?_⟩
  rcases h.2 with h1 | ⟨b, cap, cur, hv, hb, hh, c1, c2, c3, c4⟩
  · exact .inl h1
  · by_cases e1 : b = g
    · subst e1
      refine .inr ⟨b, cap, cur.setIfInBounds o m, hv, hb, heap_setCell_same _ _ _ _ _ _ hh, c1, c2, by simpa using c3, ?_⟩
      rw [Nat.mul_one] at c4 ⊢
      rw [Array.toList_setIfInBounds, List.take_set, c4]
      exact List.ext_getElem (by simp) (fun i h1 h2 => by simp)
    · exact .inr ⟨b, cap, cur, hv, hb, (heap_setCell_other _ _ _ _ e1).trans hh, c1, c2, c3, c4⟩

theorem own_fill {w : World} {e : TypeId} {X m : Value} {N g : Nat} (j o : Nat) (h : w.ownsRow 0 e 1 X N (List.replicate N m)) : (w.setCells g o (List.replicate j m)).ownsRow 0 e 1 X N (List.replicate N m) := by
  induction j generalizing w o with
  | zero => exact h
  | succ j ih => exact ih (o + 1) (own_fill1 h)

theorem own_more1 {w : World} {e : TypeId} {m : Value} {n g cap : Nat} (h : w.ownsRow 0 e 1 (.slice (some ⟨g, 0, none⟩) n cap) n (List.replicate n m)) (hn : n < cap) : (w.setCell ⟨g, n, none⟩ m).ownsRow 0 e 1 (.slice (some ⟨g, 0, none⟩) (n + 1) cap) (n + 1) (List.replicate (n + 1) m) := by
  refine ⟨by simp, ?_⟩
  rcases h.2 with ⟨h1, _⟩ | ⟨b, cap', cur, hv, hb, hh, c1, c2, c3, c4⟩
  · cases h1
  · simp only [Value.slice.injEq, Option.some.injEq, Addr.mk.injEq, true_and, and_true] at hv
    obtain ⟨rfl, rfl⟩ := hv
    refine .inr ⟨g, cap, cur.setIfInBounds n m, rfl, hb, heap_setCell_same _ _ _ _ _ _ hh, by omega, c2, by simpa using c3, ?_⟩
    rw [Nat.mul_one] at c4 ⊢
    rw [Array.toList_setIfInBounds, take_set1 _ _ _ (by rw [Array.length_toList]; omega), c4, List.replicate_succ']

theorem own_more {w : World} {e : TypeId} {m : Value} {g cap : Nat} (j n : Nat) (h : w.ownsRow 0 e 1 (.slice (some ⟨g, 0, none⟩) n cap) n (List.replicate n m)) (hn : n + j ≤ cap) : (w.setCells g n (List.replicate j m)).ownsRow 0 e 1 (.slice (some ⟨g, 0, none⟩) (n + j) cap) (n + j) (List.replicate (n + j) m) := by
  induction j generalizing w n with
  | zero => exact h
  | succ j ih =>
    have := ih (n + 1) (own_more1 h (by omega)) (by omega)
    rw [show n + (j + 1) = n + 1 + j by omega]
    exact this

theorem Fr.setCells {S : List Nat} {a w : World} (h : Fr S a w) {g : Nat} (hg : g ∈ S) (vs : List Value) (o : Nat) : Fr S a (w.setCells g o vs) := by
  induction vs generalizing w o with
  | nil => exact h
  | cons v vs ih => exact ih (h.setCell (p := ⟨g, o, none⟩) (.inl hg) v) (o + 1)

theorem own_base {w : World} {base : Nat} {e : TypeId} {size : Nat} {v : Value} {n : Nat} {xs : List Value} (h : w.ownsRow base e size v n xs) : w.ownsRow 0 e size v n xs := by
  refine ⟨h.1, ?_⟩
  rcases h.2 with h1 | ⟨b, cap, cur, hv, hb, rest⟩
  · exact .inl h1
  · exact .inr ⟨b, cap, cur, hv, Nat.zero_le _, rest⟩

/-- One thing appended some times to a list that holds nothing else: whether there is room or not. -/
theorem wpList_append_same {P : Program} (w : World) {ops : Array Oper} {rest : List Oper} {o : Oper} {a : Act} {Q : Exit → Act → World → Prop}
    (hg : o.guard = none) (s x : Operand) (t : TypeId) (hop : o.op = Op.call { callee := Callee.builtin Builtin.append, args := #[s, x], argTypes := #[t, t] })
    (e : TypeId) (i : TypeInfo) (z : Value) (bytes : Nat) (h1 : P.underlying t = some (.slice e)) (h2 : P.info? e = some i) (h3 : i.zero = some z) (h4 : i.size = 1) (h5 : i.bytes = bytes) (h6 : z.cells.size = 1)
    (v : Value) (n : Nat) (m : Value) (hs : a.eval s = v) (hown : w.ownsRow 0 e 1 v n (List.replicate n m))
    (ad : Addr) (j c : Nat) (hx : a.eval x = .slice (some ad) j c) (hc : ∀ k u, (List.replicate j m)[k]? = some u → w.cell? (ad.add k) = some u) (h1c : m.oneCell' = true) (hj : 0 < j) (b1 : n + j ≤ maxLen) (b2 : (n + j) * bytes ≤ 140737488355328)
    (hK : ∀ g cap w', w'.ownsRow 0 e 1 (.slice (some ⟨g, 0, none⟩) (n + j) cap) (n + j) (List.replicate (n + j) m) → (∀ X N, w.ownsRow 0 e 1 X N (List.replicate N m) → w'.ownsRow 0 e 1 X N (List.replicate N m)) → Fr v.ownBlock.toList w w' → (v.ownBlock = some g ∨ w.heap.size ≤ g) → wpList P ops Q rest (a.put o.dst (.slice (some ⟨g, 0, none⟩) (n + j) cap)) w') :
    wpList P ops Q (o :: rest) a w := by
  have hrep : List.replicate n m ++ List.replicate j m = List.replicate (n + j) m := by simp
  have grown : ∀ v' w', w'.ownsRow w.heap.size e 1 v' (n + j) (List.replicate n m ++ List.replicate j m) → w.grownBy w' none → wpList P ops Q rest (a.put o.dst v') w' := fun v' w' ho hgr => by
    obtain ⟨g, cap, rfl, hg1, hg2⟩ := ho.form (by omega)
    rw [hrep] at ho
    have hb := below_grown hgr
    exact hK g cap w' (own_base ho) (fun X N h => ownsRow_below h hb) (Fr.of_below hb) (.inr hg1)
  have hall : ∀ u ∈ List.replicate j m, u.oneCell' = true := fun u hu => by rw [List.eq_of_mem_replicate hu]; exact h1c
  rcases hown.2 with ⟨hv, h0⟩ | ⟨g, cap, cur, hv, hb, hh, c1, c2, c3, c4⟩
  · subst h0
    exact wpList_append_grows w hg s x t hop e i z 1 bytes h1 h2 h3 h4 h5 h6 (by omega) none 0 0 (List.replicate 0 m) (hs.trans hv) (fun _ => ⟨rfl, rfl⟩) (by simp) (fun b hb => by cases hb) ad j c (List.replicate j m) hx (by simp) hc hall (by omega) b1 b2 grown
  · have hadd : ∀ k, (⟨g, 0, none⟩ : Addr).add k = ⟨g, k, none⟩ := fun k => by unfold Addr.add; split <;> simp_all
    refine wpList_append_arg w hg s x t hop e i z 1 bytes h1 h2 h3 h4 h5 h6 (by omega) g 0 n cap (List.replicate n m) (hs.trans hv) (by simp) (fun k u hu => ?_) ad j c (List.replicate j m) hx (by simp) hc hall (fun hr k hk => ?_) b1 b2 (fun hr => ?_) (fun _ => grown)
    · have := hown.cells (g := g) (by rw [hv]; rfl) k u hu
      rw [hadd] at this
      simpa using this
    · have hk' : k < j := by simpa using hk
      constructor
      · rw [cell_of_row _ _ _ _ _ _ hh, Array.getElem?_eq_getElem (by omega)]; rfl
      · simp [World.frozen?, hh]
    · rw [show 0 + n * 1 = n by omega]
      subst hv
      exact hK g cap _ (own_more j n hown hr) (fun X N h => own_fill j n h) ((Fr.refl _ _).setCells (by simp [Value.ownBlock]) _ _) (.inl rfl)

end Go.Proofs.YtcconhgbefhdeaaDoor
