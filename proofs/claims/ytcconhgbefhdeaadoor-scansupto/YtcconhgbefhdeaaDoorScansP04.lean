import Derived.Test.YtcconhgbefhdeaaDoorScansP03
import Derived.Deep.RegionLaw
import Derived.RangeFuncNested
import Derived.RangeFuncBound
import Derived.RangeFuncCalls
import Derived.RangeFuncLeaves
import Derived.RangeFuncBox
import Derived.Shelf.Abstract
import Derived.Shelf.RegionOpen
import Derived.OwnWalkIn
import Derived.TacticsInMore
import Derived.LoopNIn
import Derived.LoopIn
import Derived.Maps.AppendAt
import Derived.Test.YtcconhgbefhdeaaDoorScansP02
namespace Go.Proofs.YtcconhgbefhdeaaDoor
open Go.RowKit
attribute [local go_sem ↓] Go.wp_at_zero Go.wp_at_succ

theorem stack_close {w : World} {rb i : Nat} {cur : Array Value} {tt : TypeId} (v : Value) (o1 o2 : Obj) (h : w.heap[rb]? = some (.cells cur tt (0, 0))) :
    Fr [rb] w (((w.setCell ⟨rb, i, none⟩ v).alloc o1).alloc o2) ∧ (((w.setCell ⟨rb, i, none⟩ v).alloc o1).alloc o2).heap[rb]? = some (.cells (cur.setIfInBounds i v) tt (0, 0)) := by
  have hrb : rb < w.heap.size := (Array.getElem?_eq_some_iff.1 h).1
  refine ⟨(((Fr.refl [rb] w).setCell (p := ⟨rb, i, none⟩) (.inl (List.mem_singleton.2 rfl)) v).alloc o1).alloc o2, ?_⟩
  rw [Below.heap_alloc _ _ _ (by simp [World.setCell]; omega), Below.heap_alloc _ _ _ (by simp [World.setCell]; omega)]
  exact heap_setCell_same _ _ _ _ _ _ h

set_option maxHeartbeats 1000000 in
theorem answer_and (sv tv rv : Value) (rb m : Nat) (a b : Bool) (c n : Int) (s : ByteArray) (cur : Array Value) (tt : TypeId) (w : World) (hm : m + 2 ≤ 40) (hb : w.heap[rb]? = some (.cells cur tt (0, 0))) (h0 : w.cell? ⟨rb, m, none⟩ = some (.bool a)) (h1 : w.cell? ⟨rb, m + 1, none⟩ = some (.bool b)) :
    Calls Tryd.prog 74 #[.agg #[sv, tv], .slice (some ⟨rb, 0, none⟩) (m + 2) 40, .agg #[.int .i64 7, .int .i64 c, .int .i64 n, .string s], rv] w fun e w' =>
      e = .returned (.slice (some ⟨rb, 0, none⟩) (m + 1) 40) ∧ Fr [rb] w w' ∧ w'.heap[rb]? = some (.cells (cur.setIfInBounds m (.bool (a && b))) tt (0, 0)) := by
  have hrb : rb < w.heap.size := World.block_lt_of_cell? w ⟨rb, m, none⟩ h0
  have f0 : w.frozen? ⟨rb, m, none⟩ = false := by simp [World.frozen?, hb]
  have HB : Hid (w.heap[rb]? = some (.cells cur tt (0, 0))) := hb
  clear hb
  cases a
  all_goals
    go_enter Tryd.func74, Tryd.ntmps74
    go_wp2
    go_ret
    exact ⟨by simp, stack_close _ _ _ HB.out⟩

set_option maxHeartbeats 1000000 in
theorem answer_or (sv tv rv : Value) (rb m : Nat) (a b : Bool) (c n : Int) (s : ByteArray) (cur : Array Value) (tt : TypeId) (w : World) (hm : m + 2 ≤ 40) (hb : w.heap[rb]? = some (.cells cur tt (0, 0))) (h0 : w.cell? ⟨rb, m, none⟩ = some (.bool a)) (h1 : w.cell? ⟨rb, m + 1, none⟩ = some (.bool b)) :
    Calls Tryd.prog 74 #[.agg #[sv, tv], .slice (some ⟨rb, 0, none⟩) (m + 2) 40, .agg #[.int .i64 8, .int .i64 c, .int .i64 n, .string s], rv] w fun e w' =>
      e = .returned (.slice (some ⟨rb, 0, none⟩) (m + 1) 40) ∧ Fr [rb] w w' ∧ w'.heap[rb]? = some (.cells (cur.setIfInBounds m (.bool (a || b))) tt (0, 0)) := by
  have hrb : rb < w.heap.size := World.block_lt_of_cell? w ⟨rb, m, none⟩ h0
  have f0 : w.frozen? ⟨rb, m, none⟩ = false := by simp [World.frozen?, hb]
  have HB : Hid (w.heap[rb]? = some (.cells cur tt (0, 0))) := hb
  clear hb
  cases a
  all_goals
    go_enter Tryd.func74, Tryd.ntmps74
    go_wp2
    go_ret
    exact ⟨by simp, stack_close _ _ _ HB.out⟩

set_option maxHeartbeats 1000000 in
theorem answer_not (sv tv rv : Value) (rb m : Nat) (a : Bool) (c n : Int) (s : ByteArray) (cur : Array Value) (tt : TypeId) (w : World) (hm : m + 1 ≤ 40) (hb : w.heap[rb]? = some (.cells cur tt (0, 0))) (h0 : w.cell? ⟨rb, m, none⟩ = some (.bool a)) :
    Calls Tryd.prog 74 #[.agg #[sv, tv], .slice (some ⟨rb, 0, none⟩) (m + 1) 40, .agg #[.int .i64 9, .int .i64 c, .int .i64 n, .string s], rv] w fun e w' =>
      e = .returned (.slice (some ⟨rb, 0, none⟩) (m + 1) 40) ∧ Fr [rb] w w' ∧ w'.heap[rb]? = some (.cells (cur.setIfInBounds m (.bool (!a))) tt (0, 0)) := by
  have hrb : rb < w.heap.size := World.block_lt_of_cell? w ⟨rb, m, none⟩ h0
  have f0 : w.frozen? ⟨rb, m, none⟩ = false := by simp [World.frozen?, hb]
  have HB : Hid (w.heap[rb]? = some (.cells cur tt (0, 0))) := hb
  clear hb
  go_enter Tryd.func74, Tryd.ntmps74
  go_wp2
  go_ret
  exact ⟨by simp, stack_close _ _ _ HB.out⟩

end Go.Proofs.YtcconhgbefhdeaaDoor

namespace Go.Proofs.YtcconhgbefhdeaaDoor
open Go.RowKit
attribute [local go_sem ↓] Go.wp_at_zero Go.wp_at_succ

theorem info_bool : (Tryd.prog.info? 4).map (fun i => (i.zero, i.size, i.bytes)) = some (some (.bool false), 1, 1) := by kernel_rfl

theorem cell_setCells_far (w : World) (rb o : Nat) (v : Value) (b i : Nat) (h : ¬ b = rb) : (w.setCells rb o [v]).cell? ⟨b, i, none⟩ = w.cell? ⟨b, i, none⟩ :=
  World.cell?_setCells_out rb [v] o w ⟨b, i, none⟩ (fun e => absurd e h)

theorem cmp_close {w w1 : World} {rb m : Nat} {cur : Array Value} {tt : TypeId} {o1 o2 o3 : Obj} (v : Value) (h : w.heap[rb]? = some (.cells cur tt (0, 0))) (hb : Below ((w.alloc o1).alloc o2).drew.heap.size ((w.alloc o1).alloc o2).drew w1) :
    Fr [rb] w ((w1.alloc o3).setCells rb (0 + m * 1) [v]) ∧ ((w1.alloc o3).setCells rb (0 + m * 1) [v]).heap[rb]? = some (.cells (cur.setIfInBounds m v) tt (0, 0)) := by
  have hrb : rb < w.heap.size := (Array.getElem?_eq_some_iff.1 h).1
  have hz : w.heap.size + 2 ≤ w1.heap.size := by have := hb.size; simp at this; omega
  have e : (w1.alloc o3).setCells rb (0 + m * 1) [v] = (w1.alloc o3).setCell ⟨rb, m, none⟩ v := by simp [World.setCells]
  rw [e]
  refine ⟨((((((Fr.refl [rb] w).alloc o1).alloc o2).drew).then hb).alloc o3).setCell (p := ⟨rb, m, none⟩) (.inl (List.mem_singleton.2 rfl)) v, ?_⟩
  refine heap_setCell_same _ _ _ _ _ _ ?_
  rw [Below.heap_alloc _ _ _ (by omega), hb.block rb (by simp; omega)]
  show ((w.alloc o1).alloc o2).heap[rb]? = _
  rw [Below.heap_alloc _ _ _ (by simp; omega), Below.heap_alloc _ _ _ hrb]
  exact h

set_option maxRecDepth 100000 in
set_option maxHeartbeats 1000000 in
theorem answer_cmp (sc scap : Nat) (ks : List Int) (tv : Value) (rb m : Nat) (d n : Int) (c : Nat) (s : ByteArray) (g rcap : Nat) (r : List (Int × ByteArray)) (cur : Array Value) (tt : TypeId) (w : World)
    (hks : KindsIn w sc ks) (hc : c < ks.length) (hin : RowIn w g r) (hcr : c < r.length) (h7 : (d == 7) = false) (h8 : (d == 8) = false) (h9 : (d == 9) = false) (hm : m + 1 ≤ 40)
    (hb : w.heap[rb]? = some (.cells cur tt (0, 0))) (h40 : cur.size = 40) (n1 : ¬ sc = rb) (n2 : ¬ g = rb) :
    Calls Tryd.prog 74 #[.agg #[.slice (some ⟨sc, 0, none⟩) ks.length scap, tv], .slice (some ⟨rb, 0, none⟩) m 40, .agg #[.int .i64 d, .int .i64 c, .int .i64 n, .string s], .slice (some ⟨g, 0, none⟩) r.length rcap] w fun e w' =>
      e = .returned (.slice (some ⟨rb, 0, none⟩) (m + 1) 40) ∧ Fr [rb] w w' ∧ w'.heap[rb]? = some (.cells (cur.setIfInBounds m (.bool (holdsB ks[c] d r[c].1 r[c].2 n s))) tt (0, 0)) := by
  obtain ⟨i0, hi0, hz0, hz1, hz2⟩ := info_parts info_bool
  have hrb : rb < w.heap.size := (Array.getElem?_eq_some_iff.1 hb).1
  have k1 := hks c hc
  obtain ⟨r1, r2⟩ := hin c hcr
  have hsc : sc < w.heap.size := World.block_lt_of_cell? w ⟨sc, c, none⟩ k1
  have hg : g < w.heap.size := World.block_lt_of_cell? w ⟨g, c * 2, none⟩ r1
  obtain ⟨x, hx⟩ : ∃ x, w.cell? ⟨rb, m, none⟩ = some x := by
    rw [cell_of_row _ _ _ _ _ _ hb]; exact ⟨_, Array.getElem?_eq_getElem (by omega)⟩
  have f0 : w.frozen? ⟨rb, m, none⟩ = false := by simp [World.frozen?, hb]
  have HB : Hid (w.heap[rb]? = some (.cells cur tt (0, 0))) := hb
  generalize ks[c] = kk at *
  generalize r[c].1 = rn at *
  generalize r[c].2 = rs at *
  have c1 : (0 : Int) ≤ (c : Int) := by omega
  have c2 : (c : Int) < (ks.length : Int) := by omega
  have c3 : (c : Int) < (r.length : Int) := by omega
  have z1 : sc < w.heap.size + 1 := by omega
  have z2 : g < w.heap.size + 1 := by omega
  have z3 : ¬ w.heap.size = rb := by omega
  have z4 : ¬ w.heap.size + 1 = rb := by omega
  clear hb hks hin hc hcr
  generalize ks.length = kl at *
  generalize r.length = rl at *
  go_enter Tryd.func74, Tryd.ntmps74
  go_wp2_with fail
  go_region_held3 (fun w' => w'.cell? ⟨w.heap.size, 0, none⟩ = some (.slice (some ⟨sc, 0, none⟩) kl scap) ∧ w'.cell? ⟨w.heap.size + 1, 0, none⟩ = some (.int .i64 d) ∧ w'.cell? ⟨w.heap.size + 1, 2, none⟩ = some (.int .i64 n) ∧ w'.cell? ⟨w.heap.size + 1, 3, none⟩ = some (.string s) ∧ w'.cell? ⟨sc, c, none⟩ = some (.int .i64 kk) ∧ w'.cell? ⟨g, c * 2, none⟩ = some (.int .i64 rn) ∧ w'.cell? ⟨g, c * 2 + 1, none⟩ = some (.string rs))
    (simp [*, World.cell?_alloc_some, cell_setCells_far])
    (first
      | (go_at_call 85; refine (holds_any _ _ _ _ _ _ _).mono ?_; rintro e w1 ⟨rfl, hb1⟩
         obtain ⟨hc1, hf1⟩ := bcell hb1
         have hz : w.heap.size + 2 ≤ w1.heap.size := by have := hb1.size; simp at this; omega
         have q1 : w1.cell? ⟨rb, m, none⟩ = some x := (hc1 rb m (by simp; omega)).trans ((cell_alloc _ _ rb m (by simp; omega)).trans ((cell_alloc _ _ rb m hrb).trans hx))
         have q2 : w1.frozen? ⟨rb, m, none⟩ = false := (hf1 rb m (by simp; omega)).trans ((frozen_alloc _ _ rb m (by simp; omega)).trans ((frozen_alloc _ _ rb m hrb).trans f0))
         have p1 : w1.cell? ⟨w.heap.size, 0, none⟩ = some (.slice (some ⟨sc, 0, none⟩) kl scap) := (hc1 _ _ (by simp <;> omega)).trans (by simp)
         have p2 : w1.cell? ⟨sc, c, none⟩ = some (.int .i64 kk) := (hc1 _ _ (by simp; omega)).trans ((cell_alloc _ _ sc c (by simp; omega)).trans ((cell_alloc _ _ sc c hsc).trans k1))
         have p3 : w1.cell? ⟨g, c * 2, none⟩ = some (.int .i64 rn) := (hc1 _ _ (by simp; omega)).trans ((cell_alloc _ _ g _ (by simp; omega)).trans ((cell_alloc _ _ g _ hg).trans r1))
         have p4 : w1.cell? ⟨g, c * 2 + 1, none⟩ = some (.string rs) := (hc1 _ _ (by simp; omega)).trans ((cell_alloc _ _ g _ (by simp; omega)).trans ((cell_alloc _ _ g _ hg).trans r2)))
      | (refine step_append_room (by rfl) _ _ _ (by rfl) 4 i0 1 Tryd.underlying142 hi0 hz1 rb 0 m 40 (by rfl) ⟨w1.heap.size, 0, none⟩ 1 1 [.bool (holdsB kk d rn rs n s)] (by rfl) (by rfl) (World.news_of_block (cs := #[.bool (holdsB kk d rn rs n s)]) (t := 4) (fr := (0, 0)) (heap_alloc_new w1 _)) (by simp [Value.oneCell']) hm
          (fun j hj => by
            have hj0 : j = 0 := by simpa using hj
            subst hj0
            rw [Nat.zero_add, Nat.mul_one, Nat.add_zero, cell_alloc _ _ rb m (by omega), frozen_alloc _ _ rb m (by omega), q1, q2]
            exact ⟨rfl, rfl⟩) ?_))
  clear hc1 hf1 q1 q2 p1 p2 p3 p4
  go_wp2
  go_ret
  exact ⟨rfl, cmp_close _ HB.out hb1⟩

end Go.Proofs.YtcconhgbefhdeaaDoor

namespace Go.Proofs.YtcconhgbefhdeaaDoor
open Go.RowKit

def stepR (ks : List Int) (r : List (Int × ByteArray)) (t : Tst) (rs : List Bool) : List Bool :=
  if t.dO = 7 then (match rs with | b :: a :: q => (a && b) :: q | q => q)
  else if t.dO = 8 then (match rs with | b :: a :: q => (a || b) :: q | q => q)
  else if t.dO = 9 then (match rs with | a :: q => (!a) :: q | q => q)
  else holdsB (ks.getD t.col.toNat 0) t.dO (r.getD t.col.toNat (0, .empty)).1 (r.getD t.col.toNat (0, .empty)).2 t.n t.s :: rs

def runR (ks : List Int) (r : List (Int × ByteArray)) : List Tst → List Bool → List Bool
  | [], rs => rs
  | t :: T, rs => runR ks r T (stepR ks r t rs)

def passB (ks : List Int) (r : List (Int × ByteArray)) (T : List Tst) : Bool :=
  match runR ks r T [] with
  | [] => true
  | b :: _ => b

theorem runR_append (ks : List Int) (r : List (Int × ByteArray)) (A B : List Tst) (rs : List Bool) : runR ks r (A ++ B) rs = runR ks r B (runR ks r A rs) := by
  induction A generalizing rs with
  | nil => rfl
  | cons t A ih => exact ih _

theorem runR_succ (ks : List Int) (r : List (Int × ByteArray)) (T : List Tst) (k : Nat) (h : k < T.length) : runR ks r (T.take (k + 1)) [] = stepR ks r T[k] (runR ks r (T.take k) []) := by
  rw [List.take_succ_eq_append_getElem h, runR_append]; rfl

theorem stepR_length (ks : List Int) (r : List (Int × ByteArray)) (t : Tst) (rs : List Bool) (h : okT ks t rs.length) : ((stepR ks r t rs).length : Int) = rs.length + (1 - takesI t.dO) := by
  rcases h with ⟨hd, _⟩ | ⟨hd, ha⟩
  · have e : takesI t.dO = 0 := by unfold takesI; rw [if_neg (by omega), if_neg (by omega)]
    unfold stepR
    rw [if_neg (by omega), if_neg (by omega), if_neg (by omega), e]
    simp
  · rcases hd with hd | hd | hd <;> rw [hd] at ha <;> simp [takesI] at ha <;> unfold stepR <;> simp [hd, takesI]
    · match rs, ha with
      | b :: a :: q, _ => simp; omega
      | [b], ha => simp at ha
      | [], ha => simp at ha
    · match rs, ha with
      | b :: a :: q, _ => simp; omega
      | [b], ha => simp at ha
      | [], ha => simp at ha
    · match rs, ha with
      | a :: q, _ => simp
      | [], ha => simp at ha

theorem runR_length (ks : List Int) (r : List (Int × ByteArray)) (T : List Tst) (hv : ∀ i (h : i < T.length), okT ks T[i] (cntI (T.take i) 0)) (k : Nat) (hk : k ≤ T.length) : ((runR ks r (T.take k) []).length : Int) = cntI (T.take k) 0 := by
  induction k with
  | zero => simp [runR, cntI]
  | succ k ih =>
    have h1 := ih (by omega)
    rw [runR_succ ks r T k (by omega), cntI_succ T k (by omega), stepR_length ks r _ _ (by rw [h1]; exact hv k (by omega)), h1]

/-- The answers so far, in memory. -/
def StackAt (w : World) (rb : Nat) (tt : TypeId) (rs : List Bool) : Prop :=
  ∃ cur : Array Value, w.heap[rb]? = some (.cells cur tt (0, 0)) ∧ cur.size = 40 ∧ cur.toList.take rs.length = rs.reverse.map Value.bool

theorem take_set1 (l : List Value) (m : Nat) (x : Value) (h : m < l.length) : (l.set m x).take (m + 1) = l.take m ++ [x] := by
  rw [List.take_succ_eq_append_getElem (by simpa using h)]
  rw [List.take_set_of_le (Nat.le_refl m)]
  simp

theorem StackAt.cell {w : World} {rb : Nat} {tt : TypeId} {rs : List Bool} (h : StackAt w rb tt rs) (i : Nat) (b : Bool) (hi : rs.reverse[i]? = some b) : w.cell? ⟨rb, i, none⟩ = some (.bool b) := by
  obtain ⟨cur, hc, hs, ht⟩ := h
  have hl : i < rs.length := by have := (List.getElem?_eq_some_iff.1 hi).1; simpa using this
  rw [cell_of_row _ _ _ _ _ _ hc]
  have e : (cur.toList.take rs.length)[i]? = some (.bool b) := by rw [ht, List.getElem?_map, hi]; rfl
  rw [List.getElem?_take, if_pos hl] at e
  simpa using e

theorem answer_any (sc scap : Nat) (ks : List Int) (tv : Value) (rb : Nat) (t : Tst) (g rcap : Nat) (r : List (Int × ByteArray)) (rs : List Bool) (tt : TypeId) (w : World)
    (hks : KindsIn w sc ks) (hin : RowIn w g r) (hlen : r.length = ks.length) (hok : okT ks t rs.length) (h39 : rs.length ≤ 39) (hst : StackAt w rb tt rs) (n1 : ¬ sc = rb) (n2 : ¬ g = rb) :
    Calls Tryd.prog 74 #[.agg #[.slice (some ⟨sc, 0, none⟩) ks.length scap, tv], .slice (some ⟨rb, 0, none⟩) rs.length 40, .agg #[.int .i64 t.dO, .int .i64 t.col, .int .i64 t.n, .string t.s], .slice (some ⟨g, 0, none⟩) r.length rcap] w fun e w' =>
      e = .returned (.slice (some ⟨rb, 0, none⟩) (stepR ks r t rs).length 40) ∧ Fr [rb] w w' ∧ StackAt w' rb tt (stepR ks r t rs) := by
  obtain ⟨cur, hc, hs, ht⟩ := id hst
  have hl40 : cur.toList.length = 40 := by rw [Array.length_toList]; exact hs
  rcases hok with ⟨hd, c, hcol, hcl, _⟩ | ⟨hd, ha⟩
  · have e : stepR ks r t rs = holdsB ks[c] t.dO (r[c]'(by omega)).1 (r[c]'(by omega)).2 t.n t.s :: rs := by
      unfold stepR
      rw [if_neg (by omega), if_neg (by omega), if_neg (by omega), hcol]
      simp [List.getD, hcl, hlen ▸ hcl]
    rw [e, hcol]
    refine (answer_cmp sc scap ks tv rb rs.length t.dO t.n c t.s g rcap r cur tt w hks hcl hin (by omega) (by simp; omega) (by simp; omega) (by simp; omega) (by omega) hc hs n1 n2).mono ?_
    rintro e w' ⟨rfl, hF, hb⟩
    refine ⟨by simp, hF, _, hb, by simpa using hs, ?_⟩
    rw [Array.toList_setIfInBounds, List.length_cons, take_set1 _ _ _ (by omega), ht]
    simp
  · rcases hd with hd | hd | hd <;> rw [hd] at ha ⊢ <;> simp [takesI] at ha
    · match rs, ha with
      | [], ha => simp at ha
      | [b], ha => simp at ha
      | b :: a :: q, _ =>
        have e : stepR ks r t (b :: a :: q) = (a && b) :: q := by unfold stepR; rw [if_pos hd]
        rw [e]
        refine (answer_and _ tv _ rb q.length a b t.col t.n t.s cur tt w (by simp at h39; omega) hc (hst.cell _ _ (by simp)) (hst.cell _ _ (by simp))).mono ?_
        rintro e w' ⟨rfl, hF, hb⟩
        refine ⟨by simp, hF, _, hb, by simpa using hs, ?_⟩
        simp only [List.length_cons, List.reverse_cons, List.map_append] at ht ⊢
        rw [Array.toList_setIfInBounds, take_set1 _ _ _ (by simp at h39; omega)]
        have e2 : cur.toList.take q.length = (cur.toList.take (q.length + 1 + 1)).take q.length := by rw [List.take_take]; congr 1; omega
        rw [e2, ht]
        simp
    · match rs, ha with
      | [], ha => simp at ha
      | [b], ha => simp at ha
      | b :: a :: q, _ =>
        have e : stepR ks r t (b :: a :: q) = (a || b) :: q := by unfold stepR; rw [if_neg (by omega), if_pos hd]
        rw [e]
        refine (answer_or _ tv _ rb q.length a b t.col t.n t.s cur tt w (by simp at h39; omega) hc (hst.cell _ _ (by simp)) (hst.cell _ _ (by simp))).mono ?_
        rintro e w' ⟨rfl, hF, hb⟩
        refine ⟨by simp, hF, _, hb, by simpa using hs, ?_⟩
        simp only [List.length_cons, List.reverse_cons, List.map_append] at ht ⊢
        rw [Array.toList_setIfInBounds, take_set1 _ _ _ (by simp at h39; omega)]
        have e2 : cur.toList.take q.length = (cur.toList.take (q.length + 1 + 1)).take q.length := by rw [List.take_take]; congr 1; omega
        rw [e2, ht]
        simp
    · match rs, ha with
      | [], ha => simp at ha
      | a :: q, _ =>
        have e : stepR ks r t (a :: q) = (!a) :: q := by unfold stepR; rw [if_neg (by omega), if_neg (by omega), if_pos hd]
        rw [e]
        refine (answer_not _ tv _ rb q.length a t.col t.n t.s cur tt w (by simp at h39; omega) hc (hst.cell _ _ (by simp))).mono ?_
        rintro e w' ⟨rfl, hF, hb⟩
        refine ⟨by simp, hF, _, hb, by simpa using hs, ?_⟩
        simp only [List.length_cons, List.reverse_cons, List.map_append] at ht ⊢
        rw [Array.toList_setIfInBounds, take_set1 _ _ _ (by simp at h39; omega)]
        have e2 : cur.toList.take q.length = (cur.toList.take (q.length + 1)).take q.length := by rw [List.take_take]; congr 1; omega
        rw [e2, ht]
        simp

theorem StackAt.keep {w w' : World} {rb : Nat} {tt : TypeId} {rs : List Bool} (h : StackAt w rb tt rs) (hb : w'.heap[rb]? = w.heap[rb]?) : StackAt w' rb tt rs := by
  obtain ⟨cur, h1, h2⟩ := h
  exact ⟨cur, hb.trans h1, h2⟩
theorem StackAt.lt {w : World} {rb : Nat} {tt : TypeId} {rs : List Bool} (h : StackAt w rb tt rs) : rb < w.heap.size := by
  obtain ⟨cur, h1, _⟩ := h
  exact (Array.getElem?_eq_some_iff.1 h1).1

theorem new_second (w : World) (o1 o2 : Obj) : ((w.alloc o1).alloc o2).heap[w.heap.size + 1]? = some o2 := by
  rw [show w.heap.size + 1 = (w.alloc o1).heap.size by simp]; exact heap_alloc_new _ _

set_option maxRecDepth 100000 in
set_option maxHeartbeats 1000000 in
theorem passes_ok (sc scap tcap : Nat) (ta : Option Addr) (ks : List Int) (T : List Tst) (g rcap : Nat) (r : List (Int × ByteArray)) (w : World) (hk : 0 < ks.length) (hks : KindsIn w sc ks) (hin : RowIn w g r) (hlen : r.length = ks.length) (hT : TestsAt w ta T) (hv : ValidT ks T) :
    Calls Tryd.prog 49 #[.agg #[.slice (some ⟨sc, 0, none⟩) ks.length scap, .slice ta T.length tcap], .slice (some ⟨g, 0, none⟩) r.length rcap] w fun e w' => e = .returned (.bool (passB ks r T)) ∧ Below w.heap.size w w' := by
  have hsc : sc < w.heap.size := hks.lt hk
  have hg : g < w.heap.size := hin.lt (by omega)
  have HV : Hid (ValidT ks T) := hv
  have HT : Hid (TestsAt w ta T) := hT
  have HKS : Hid (KindsIn w sc ks) := hks
  have HIN : Hid (RowIn w g r) := hin
  have HLEN : Hid (r.length = ks.length) := hlen
  clear hv hT hks hin hlen
  go_enter Tryd.func49, Tryd.ntmps49
  go_wp2_with fail
  go_loopw [6, 13] (fun av i wr => ∃ k : Nat, k ≤ T.length ∧ i = .int .i64 k ∧ av = .slice (some ⟨w.heap.size + 1, 0, none⟩) (runR ks r (T.take k) []).length 40 ∧ Below w.heap.size w wr ∧
    wr.heap[w.heap.size]? = some (.cells #[.slice (some ⟨sc, 0, none⟩) ks.length scap, .slice ta T.length tcap] 92 (0, 0)) ∧ StackAt wr (w.heap.size + 1) 141 (runR ks r (T.take k) [])) (fun _ i _ => T.length - (intOf i).toNat)
  case atStart =>
    refine ⟨0, Nat.zero_le _, rfl, rfl, ((Below.refl _ _).alloc (Nat.le_refl _) _).alloc (by simp) _, ?_, ?_⟩
    · rw [Below.heap_alloc _ _ _ (by simp)]; exact heap_alloc_new w _
    · exact ⟨_, new_second w _ _, rfl, by simp [runR]⟩
  case round =>
    obtain ⟨k, hk, rfl, rfl, hB, hbox, hst⟩ := hrel
    have hrl := runR_length ks r T HV.out.ok k hk
    have hcb := cntI_bd (T.take k) 0
    have hll : (T.take k).length = k := by simp; omega
    have h40 := HV.out.few
    have hz1 : w.heap.size + 1 < wr.heap.size := hst.lt
    by_cases hlt : k < T.length
    · rcases HT.out with h0 | ⟨tg, rfl, tin⟩
      · rw [h0] at hlt; simp at hlt
      have htg : tg < w.heap.size := tin.lt (by omega)
      obtain ⟨c1, c2, c3, c4⟩ := tin k hlt
      have e : ∀ o, wr.cell? ⟨tg, o, none⟩ = w.cell? ⟨tg, o, none⟩ := fun o => hB.cell (p := ⟨tg, o, none⟩) htg
      rw [← e] at c1 c2 c3 c4
      have b0 : wr.cell? ⟨w.heap.size, 0, none⟩ = some (.slice (some ⟨sc, 0, none⟩) ks.length scap) := by rw [cell_of_row _ _ _ _ _ _ hbox]; rfl
      have b1 : wr.cell? ⟨w.heap.size, 1, none⟩ = some (.slice (some ⟨tg, 0, none⟩) T.length tcap) := by rw [cell_of_row _ _ _ _ _ _ hbox]; rfl
      have b0' : ∀ o, (wr.alloc o).cell? ⟨w.heap.size, 0, none⟩ = some (.slice (some ⟨sc, 0, none⟩) ks.length scap) := fun o => (cell_alloc wr o _ _ (by omega)).trans b0
      have b1' : ∀ o, (wr.alloc o).cell? ⟨w.heap.size, 1, none⟩ = some (.slice (some ⟨tg, 0, none⟩) T.length tcap) := fun o => (cell_alloc wr o _ _ (by omega)).trans b1
      clear b0 b1
      have HB : Hid (wr.heap[w.heap.size]? = some (.cells #[.slice (some ⟨sc, 0, none⟩) ks.length scap, .slice (some ⟨tg, 0, none⟩) T.length tcap] 92 (0, 0))) := hbox
      have HS : Hid (StackAt wr (w.heap.size + 1) 141 (runR ks r (T.take k) [])) := hst
      have HR : Hid (runR ks r (T.take (k + 1)) [] = stepR ks r T[k] (runR ks r (T.take k) [])) := runR_succ ks r T k hlt
      have HOK : Hid (okT ks T[k] ((runR ks r (T.take k) []).length : Nat)) := by have := HV.out.ok k hlt; rw [← hrl] at this; exact this
      have h39 : (runR ks r (T.take k) []).length ≤ 39 := by omega
      have TIN : Hid (TestsIn w tg T) := tin
      clear e hbox hst tin hrl hcb hll
      generalize runR ks r (T.take k) [] = rs at *
      go_wp2_with fail
      refine (answer_any sc scap ks _ (w.heap.size + 1) T[k] g rcap r rs 141 _ (HKS.out.keep ((Below.heap_alloc _ _ _ (by omega)).trans (hB.block sc hsc))) (HIN.out.keep ((Below.heap_alloc _ _ _ (by omega)).trans (hB.block g hg))) HLEN.out HOK.out h39 (HS.out.keep (Below.heap_alloc _ _ _ hz1)) (by omega) (by omega)).mono ?_
      rintro e w1 ⟨rfl, hF, hst⟩
      go_wp2
      go_roundw
      case rel =>
        refine ⟨k + 1, by omega, by go_num, by rw [HR.out], (hB.alloc (by omega) _).trans (hF.below (by simp; omega) (by simp)), ?_, by rw [HR.out]; exact hst⟩
        rw [hF.block w.heap.size (by simp; omega) (by simp), Below.heap_alloc _ _ _ (by omega)]
        exact HB.out
      case measure => simp [intOf]; omega
    · have hke : k = T.length := by omega
      have e0 : T.take k = T := by rw [hke, List.take_length]
      rw [e0] at hrl hst ⊢
      have hpost : (runR ks r T [] = [] ∧ passB ks r T = true) ∨ ∃ b, runR ks r T [] = [b] ∧ passB ks r T = b := by
        rcases HV.out.one with h | h
        · left; subst h; exact ⟨rfl, rfl⟩
        · right
          rw [h] at hrl
          obtain ⟨b, hb⟩ := List.length_eq_one_iff.1 (show (runR ks r T []).length = 1 by omega)
          exact ⟨b, hb, by unfold passB; rw [hb]⟩
      clear hrl hcb hll
      rcases hpost with ⟨h1, h2⟩ | ⟨b, h1, h2⟩
      · rw [h1] at hst ⊢
        have HP : Hid (passB ks r T = true) := h2
        clear h1 h2 hke e0
        go_wp2
        go_ret
        exact ⟨ret_bool HP.out.symm, hB⟩
      · rw [h1] at hst ⊢
        have HP : Hid (passB ks r T = b) := h2
        have cb := hst.cell 0 b rfl
        clear h1 h2 hke e0
        go_wp2
        go_ret
        exact ⟨ret_bool HP.out.symm, hB⟩

end Go.Proofs.YtcconhgbefhdeaaDoor

namespace Go.Proofs.YtcconhgbefhdeaaDoor
open Go.RowKit Go.Shelf

attribute [local go_sem] Oper.semAt_some

theorem rows_cell {w : World} {base : Nat} {v : Value} {L : List (Nat × List (Int × ByteArray))} (h : RowsAt w base v L) (hl : 0 < L.length) : ∃ fg cp, v = .slice (some ⟨fg, 0, none⟩) L.length cp ∧ fg < w.heap.size ∧ base ≤ fg ∧ ∀ k (hk : k < L.length), w.cell? ⟨fg, k, none⟩ = some (rval L[k]) := by
  obtain ⟨g, cap, hv, h1, h2⟩ := h.own.form hl
  refine ⟨g, cap, hv, h2, h1, fun k hk => ?_⟩
  have := h.own.cells (g := g) (by rw [hv]; rfl) k (rval L[k]) (by simp [hk])
  have hadd : (⟨g, 0, none⟩ : Addr).add k = ⟨g, k, none⟩ := by unfold Addr.add; split <;> simp_all
  rw [hadd] at this
  exact this

/-- Of rows: one of a list. -/
abbrev Of (L : List (Nat × List (Int × ByteArray))) : Type := { p : Nat × List (Int × ByteArray) // p ∈ L }

/-- What a round that goes on keeps: all that lay, and the sieve's box. -/
def KeepsS (n₀ bA : Nat) (A B : World) : Prop := Below n₀ A B ∧ B.heap[bA]? = A.heap[bA]?

theorem KeepsS.trans {n₀ bA : Nat} {A B C : World} (h : KeepsS n₀ bA A B) (k : KeepsS n₀ bA B C) : KeepsS n₀ bA A C := ⟨h.1.trans k.1, k.2.trans h.2⟩

theorem keepsS_b {n₀ bA : Nat} {w : World} (h0 : n₀ ≤ w.heap.size) (hA : bA < w.heap.size) : ∀ (W : World) (l : Nat) (o o' : Obj), w.heap.size ≤ l → W.heap[l]? = some o → o.isCells = false → o.isWalk = false → KeepsS n₀ bA W (W.putObj l o') :=
  fun W l o o' hl ho h1 h2 => ⟨belowK_b (w := w) h0 W l o o' hl ho h1 h2, World.putObj_heap_other (by omega)⟩

theorem filter_take (ks : List Int) (T : List Tst) (L : List (Nat × List (Int × ByteArray))) (k : Nat) (h : k < L.length) :
    (L.take (k + 1)).filter (fun p => passB ks p.2 T) = (L.take k).filter (fun p => passB ks p.2 T) ++ (if passB ks L[k].2 T then [L[k]] else []) := by
  rw [List.take_succ_eq_append_getElem h, List.filter_append]
  congr 1
  simp [List.filter_cons]

set_option maxHeartbeats 1000000 in
theorem passing_ok (bs : Nat) (a b : Value) (w : World) :
    Calls Tryd.prog 46 #[.pointer (some ⟨bs, 0, none⟩), .agg #[a, b]] w fun e w' => e = .returned (.func (.func 68) #[] #[.pointer (some ⟨w.heap.size, 0, none⟩), .pointer (some ⟨w.heap.size + 1, 0, none⟩)]) ∧
      w' = (w.alloc (.cells #[.pointer (some ⟨bs, 0, none⟩)] 72)).alloc (.cells #[a, b] 92) := by
  go_enter Tryd.func46, Tryd.ntmps46
  go_wp2
  go_ret
  exact ⟨rfl, rfl⟩

set_option maxRecDepth 100000 in
set_option maxHeartbeats 1000000 in
theorem passing1_in (n : Nat) (hn : 1 ≤ n) (base bs bS bA sc scap tcap : Nat) (ta fa : Option Addr) (fc : Nat) (ks : List Int) (T : List Tst) (L : List (Nat × List (Int × ByteArray))) (sv : Value) (w0 W : World) (l : Nat)
    (h : StoreAt w0 base bs ks L sv (.slice fa L.length fc)) (hL : L.length ≤ 1000) (hk : 0 < ks.length) (hrow : ∀ p ∈ L, p.2.length = ks.length) (hks : KindsIn w0 sc ks) (hT : TestsAt w0 ta T) (hv : ValidT ks T)
    (J Jx : List (Of L) → World → Prop) (hJ : AbidesFrom W.heap.size J)
    (hY : ∀ pre (x : Of L) W1, J pre W1 → pre.length < L.length → YieldAt Fence.wide (n - 1) Tryd.prog l #[rval x.1] W1 fun e W' =>
      (e = .returned (.bool true) ∧ J (pre ++ [x]) W' ∧ KeepsS w0.heap.size bA W1 W') ∨ (e = .returned (.bool false) ∧ Jx (pre ++ [x]) W'))
    (hW : Below w0.heap.size w0 W) (cS : W.cell? ⟨bS, 0, none⟩ = some (.pointer (some ⟨bs, 0, none⟩)))
    (hA : W.heap[bA]? = some (.cells #[.slice (some ⟨sc, 0, none⟩) ks.length scap, .slice ta T.length tcap] 92 (0, 0))) (h0 : J [] W) :
    CallsIn Fence.wide n Tryd.prog 68 #[.func (.yield l) #[] #[], .pointer (some ⟨bS, 0, none⟩), .pointer (some ⟨bA, 0, none⟩)] W fun e W' => (∃ v, e = .returned v) ∧
      ((∃ xs, xs.map Subtype.val = L.filter (fun p => passB ks p.2 T) ∧ J xs W') ∨ (∃ pre : List (Of L), True ∧ Jx pre W')) := by
  have hbs : bs < w0.heap.size := (Array.getElem?_eq_some_iff.1 h.blk).1
  have hsc : sc < w0.heap.size := hks.lt hk
  have c1 : W.cell? ⟨bs, 1, none⟩ = some (.slice fa L.length fc) := by rw [hW.cell (p := ⟨bs, 1, none⟩) hbs, cell_of_row _ _ _ _ _ _ h.blk]; rfl
  have HH : Hid (StoreAt w0 base bs ks L sv (.slice fa L.length fc)) := h
  have HK : Hid (KindsIn w0 sc ks) := hks
  have HT : Hid (TestsAt w0 ta T) := hT
  have HV : Hid (ValidT ks T) := hv
  have HR : Hid (∀ p ∈ L, p.2.length = ks.length) := hrow
  have HY : Hid (∀ pre (x : Of L) W1, J pre W1 → pre.length < L.length → YieldAt Fence.wide (n - 1) Tryd.prog l #[rval x.1] W1 fun e W' =>
      (e = .returned (.bool true) ∧ J (pre ++ [x]) W' ∧ KeepsS w0.heap.size bA W1 W') ∨ (e = .returned (.bool false) ∧ Jx (pre ++ [x]) W')) := hY
  have HJ : Hid (AbidesFrom W.heap.size J) := hJ
  clear h hks hT hv hrow hY hJ
  refine callsIn_of_wp Tryd.func68 rfl trivial ?_ rfl
  simp only [Tryd.ntmps68, List.size_toArray, List.length_cons, List.length_nil, Nat.reduceAdd, Nat.reduceSub, Array.replicate_succ, Array.replicate_zero, List.push_toArray, List.append_toArray, List.nil_append, List.cons_append]
  gi_wp2
  gi_loopw [11] (fun i wr => ∃ (k : Nat) (pre : List (Of L)), i = .int .i64 k ∧ k ≤ L.length ∧ pre.map Subtype.val = (L.take k).filter (fun p => passB ks p.2 T) ∧ J pre wr ∧ Below w0.heap.size w0 wr ∧
    wr.heap[bA]? = some (.cells #[.slice (some ⟨sc, 0, none⟩) ks.length scap, .slice ta T.length tcap] 92 (0, 0)) ∧ W.heap.size ≤ wr.heap.size) (fun i _ => L.length - (intOf i).toNat)
  case atStart => exact ⟨0, [], rfl, Nat.zero_le _, rfl, h0, hW, hA, Nat.le_refl _⟩
  case round =>
    obtain ⟨k, pre, rfl, hk', hpre, hJs, hB, hbox, hsz⟩ := hrel
    have hpl : pre.length ≤ k := by
      have : (pre.map Subtype.val).length ≤ k := by rw [hpre]; exact Nat.le_trans (List.length_filter_le _ _) (by simp; omega)
      simpa using this
    have HP : Hid (pre.map Subtype.val = (L.take k).filter (fun p => passB ks p.2 T)) := hpre
    clear hpre
    by_cases hlt : k < L.length
    · obtain ⟨fg, cp, hfe, hfg, hfb, hcells⟩ := rows_cell HH.out.rows (by omega)
      simp only [Value.slice.injEq, true_and] at hfe
      obtain ⟨rfl, rfl⟩ := hfe
      have d1 : wr.cell? ⟨fg, k, none⟩ = some (.slice (some ⟨L[k].1, 0, none⟩) L[k].2.length L[k].2.length) := (hB.cell (p := ⟨fg, k, none⟩) hfg).trans (hcells k hlt)
      obtain ⟨rlo, rblk⟩ := HH.out.rows.blk L[k] (List.getElem_mem hlt)
      have RLEN : Hid (L[k].2.length = ks.length) := HR.out L[k] (List.getElem_mem hlt)
      have hrl : L[k].1 < w0.heap.size := rblk.lt
      have RIN : Hid (RowIn wr L[k].1 L[k].2) := (rblk.rowIn).keep (hB.block _ hrl)
      have HF : Hid ((L.take (k + 1)).filter (fun p => passB ks p.2 T) = (L.take k).filter (fun p => passB ks p.2 T) ++ (if passB ks L[k].2 T then [L[k]] else [])) := filter_take ks T L k hlt
      have hm : L[k] ∈ L := List.getElem_mem hlt
      have b0 : wr.cell? ⟨bA, 0, none⟩ = some (.slice (some ⟨sc, 0, none⟩) ks.length scap) := by rw [cell_of_row _ _ _ _ _ _ hbox]; rfl
      have b1 : wr.cell? ⟨bA, 1, none⟩ = some (.slice ta T.length tcap) := by rw [cell_of_row _ _ _ _ _ _ hbox]; rfl
      have hbA : bA < wr.heap.size := (Array.getElem?_eq_some_iff.1 hbox).1
      have HB : Hid (wr.heap[bA]? = some (.cells #[.slice (some ⟨sc, 0, none⟩) ks.length scap, .slice ta T.length tcap] 92 (0, 0))) := hbox
      clear hcells rblk hbox rlo
      generalize L[k] = p at *
      obtain ⟨rg, rr⟩ := p
      cases hp : passB ks rr T
      · have HQ : Hid (passB ks rr T = false) := hp
        gi_wp2_with (refine ⟨trivial, ?_⟩; gi_at_call 49; refine (callsIn_wide.2 (passes_ok sc scap tcap ta ks T rg rr.length rr _ hk (HK.out.keep (hB.block sc hsc)) RIN.out RLEN.out (HT.out.keep (fun j hj => hB.block j hj)) HV.out)).mono ?_; rintro e w2 ⟨rfl, hb2⟩)
        refine ⟨fun _ h => (by cases h), ?_⟩
        gi_wp2
        go_roundw
        case rel =>
          refine ⟨k + 1, pre, by go_num, by omega, ?_, HJ.out _ _ _ none hJs (grownBy_below hb2) (fun r e => by cases e), hB.trans (hb2.mono hB.size), (hb2.block _ hbA).trans HB.out, Nat.le_trans hsz hb2.size⟩
          rw [HF.out, HP.out, HQ.out]; simp
        case measure => simp [intOf]; omega
      · have HQ : Hid (passB ks rr T = true) := hp
        have hs2 := hB.size
        gi_wp2_with (refine ⟨trivial, ?_⟩; gi_at_call 49; refine (callsIn_wide.2 (passes_ok sc scap tcap ta ks T rg rr.length rr _ hk (HK.out.keep (hB.block sc hsc)) RIN.out RLEN.out (HT.out.keep (fun j hj => hB.block j hj)) HV.out)).mono ?_; rintro e w2 ⟨rfl, hb2⟩; obtain ⟨fn, tmps, assign, body, hy, hR⟩ := HY.out pre ⟨(rg, rr), hm⟩ w2 (HJ.out _ _ _ none hJs (grownBy_below hb2) (fun r e => by cases e)) (by omega); dsimp only [rval] at hy)
        refine hR.mono ?_
        rintro e W3 (⟨rfl, hJ3, hk3⟩ | ⟨rfl, hJx3⟩)
        · gi_wp2
          go_roundw
          case rel =>
            have h1 := hb2.size
            have h2 := hk3.1.size
            refine ⟨k + 1, pre ++ [⟨(rg, rr), hm⟩], by go_num, by omega, ?_, hJ3, (hB.trans (hb2.mono hB.size)).trans hk3.1, (hk3.2.trans (hb2.block _ hbA)).trans HB.out, by omega⟩
            rw [HF.out, List.map_append, HP.out, HQ.out]; simp
          case measure => simp [intOf]; omega
        · gi_wp2
          refine bodyPost_ret (results_none rfl _ _ _) rfl ?_
          exact ⟨⟨_, rfl⟩, .inr ⟨pre ++ [⟨(rg, rr), hm⟩], trivial, hJx3⟩⟩
    · gi_wp2
      go_end0
      have e0 : L.take k = L := List.take_of_length_le (by omega)
      exact ⟨⟨_, rfl⟩, .inl ⟨pre, by rw [HP.out, e0], hJs⟩⟩

theorem passing1_stops (n : Nat) (hn : 1 ≤ n) (base bs bS bA sc scap tcap : Nat) (ta fa : Option Addr) (fc : Nat) (ks : List Int) (T : List Tst) (L : List (Nat × List (Int × ByteArray))) (sv : Value) (w0 w : World)
    (h : StoreAt w0 base bs ks L sv (.slice fa L.length fc)) (hL : L.length ≤ 1000) (hk : 0 < ks.length) (hrow : ∀ p ∈ L, p.2.length = ks.length) (hks : KindsIn w0 sc ks) (hT : TestsAt w0 ta T) (hv : ValidT ks T)
    (hW : Below w0.heap.size w0 w) (cS : w.cell? ⟨bS, 0, none⟩ = some (.pointer (some ⟨bs, 0, none⟩)))
    (hA : w.heap[bA]? = some (.cells #[.slice (some ⟨sc, 0, none⟩) ks.length scap, .slice ta T.length tcap] 92 (0, 0))) :
    SeqStopsK Fence.wide n Tryd.prog 68 #[.pointer (some ⟨bS, 0, none⟩), .pointer (some ⟨bA, 0, none⟩)] (fun x : Of L => #[rval x.1]) (KeepsS w0.heap.size bA) (fun xs => xs.map Subtype.val = L.filter (fun p => passB ks p.2 T)) (fun _ => True) L.length w :=
  fun l J Jx W hW' hJ _ hY h0 => by
    have hbS : bS < w.heap.size := World.block_lt_of_cell? w ⟨bS, 0, none⟩ cS
    have hbA : bA < w.heap.size := (Array.getElem?_eq_some_iff.1 hA).1
    exact passing1_in n hn base bs bS bA sc scap tcap ta fa fc ks T L sv w0 W l h hL hk hrow hks hT hv J Jx hJ hY (hW.trans (hW'.mono hW.size)) ((hW'.cell (p := ⟨bS, 0, none⟩) hbS).trans cS) ((hW'.block _ hbA).trans hA) h0

end Go.Proofs.YtcconhgbefhdeaaDoor
