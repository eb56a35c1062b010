import Derived.Test.YtcconhgbefhdeaaDoorAnswer2
namespace Go.Proofs.YtcconhgbefhdeaaDoor
open Go.RowKit

def stepR (ks : List Int) (r : List (Int × ByteArray)) (t : Tst) (rs : List Bool) : List Bool :=
  if t.dO = 7 then (match rs with | b :: a :: q => (a && b) :: q | q => q)
  else if t.dO = 8 then (match rs with | b :: a :: q => (a || b) :: q | q => q)
  else if t.dO = 9 then (match rs with | a :: q => (!a) :: q | q => q)
  else holdsB (ks.getD t.col.toNat 0) t.dO (r.getD t.col.toNat (0, .empty)).1 (r.getD t.col.toNat (0, .empty)).2 t.n t.s :: rs

def runR (ks : List Int) (r : List (Int × ByteArray)) : List Tst → List Bool → List Bool
  | [], rs => rs
  | t :: T, rs => runR ks r T (stepR ks r t rs)

def passB (ks : List Int) (r : List (Int × ByteArray)) (T : List Tst) : Bool :=
  match runR ks r T [] with
  | [] => true
  | b :: _ => b

theorem runR_append (ks : List Int) (r : List (Int × ByteArray)) (A B : List Tst) (rs : List Bool) : runR ks r (A ++ B) rs = runR ks r B (runR ks r A rs) := by
  induction A generalizing rs with
  | nil => rfl
  | cons t A ih => exact ih _

theorem runR_succ (ks : List Int) (r : List (Int × ByteArray)) (T : List Tst) (k : Nat) (h : k < T.length) : runR ks r (T.take (k + 1)) [] = stepR ks r T[k] (runR ks r (T.take k) []) := by
  rw [List.take_succ_eq_append_getElem h, runR_append]; rfl

theorem stepR_length (ks : List Int) (r : List (Int × ByteArray)) (t : Tst) (rs : List Bool) (h : okT ks t rs.length) : ((stepR ks r t rs).length : Int) = rs.length + (1 - takesI t.dO) := by
  rcases h with ⟨hd, _⟩ | ⟨hd, ha⟩
  · have e : takesI t.dO = 0 := by unfold takesI; rw [if_neg (by omega), if_neg (by omega)]
    unfold stepR
    rw [if_neg (by omega), if_neg (by omega), if_neg (by omega), e]
    simp
  · rcases hd with hd | hd | hd <;> rw [hd] at ha <;> simp [takesI] at ha <;> unfold stepR <;> simp [hd, takesI]
    · match rs, ha with
      | b :: a :: q, _ => simp; omega
      | [b], ha => simp at ha
      | [], ha => simp at ha
    · match rs, ha with
      | b :: a :: q, _ => simp; omega
      | [b], ha => simp at ha
      | [], ha => simp at ha
    · match rs, ha with
      | a :: q, _ => simp
      | [], ha => simp at ha

theorem runR_length (ks : List Int) (r : List (Int × ByteArray)) (T : List Tst) (hv : ∀ i (h : i < T.length), okT ks T[i] (cntI (T.take i) 0)) (k : Nat) (hk : k ≤ T.length) : ((runR ks r (T.take k) []).length : Int) = cntI (T.take k) 0 := by
  induction k with
  | zero => simp [runR, cntI]
  | succ k ih =>
    have h1 := ih (by omega)
    rw [runR_succ ks r T k (by omega), cntI_succ T k (by omega), stepR_length ks r _ _ (by rw [h1]; exact hv k (by omega)), h1]

/-- The answers so far, in memory. -/
def StackAt (w : World) (rb : Nat) (tt : TypeId) (rs : List Bool) : Prop :=
  ∃ cur : Array Value, w.heap[rb]? = some (.cells cur tt (0, 0)) ∧ cur.size = 40 ∧ cur.toList.take rs.length = rs.reverse.map Value.bool

theorem take_set1 (l : List Value) (m : Nat) (x : Value) (h : m < l.length) : (l.set m x).take (m + 1) = l.take m ++ [x] := by
  rw [List.take_succ_eq_append_getElem (by simpa using h)]
  rw [List.take_set_of_le (Nat.le_refl m)]
  simp

theorem StackAt.cell {w : World} {rb : Nat} {tt : TypeId} {rs : List Bool} (h : StackAt w rb tt rs) (i : Nat) (b : Bool) (hi : rs.reverse[i]? = some b) : w.cell? ⟨rb, i, none⟩ = some (.bool b) := by
  obtain ⟨cur, hc, hs, ht⟩ := h
  have hl : i < rs.length := by have := (List.getElem?_eq_some_iff.1 hi).1; simpa using this
  rw [cell_of_row _ _ _ _ _ _ hc]
  have e : (cur.toList.take rs.length)[i]? = some (.bool b) := by rw [ht, List.getElem?_map, hi]; rfl
  rw [List.getElem?_take, if_pos hl] at e
  simpa using e

theorem answer_any (sc scap : Nat) (ks : List Int) (tv : Value) (rb : Nat) (t : Tst) (g rcap : Nat) (r : List (Int × ByteArray)) (rs : List Bool) (tt : TypeId) (w : World)
    (hks : KindsIn w sc ks) (hin : RowIn w g r) (hlen : r.length = ks.length) (hok : okT ks t rs.length) (h39 : rs.length ≤ 39) (hst : StackAt w rb tt rs) (n1 : ¬ sc = rb) (n2 : ¬ g = rb) :
    Calls Tryd.prog 74 #[.agg #[.slice (some ⟨sc, 0, none⟩) ks.length scap, tv], .slice (some ⟨rb, 0, none⟩) rs.length 40, .agg #[.int .i64 t.dO, .int .i64 t.col, .int .i64 t.n, .string t.s], .slice (some ⟨g, 0, none⟩) r.length rcap] w fun e w' =>
      e = .returned (.slice (some ⟨rb, 0, none⟩) (stepR ks r t rs).length 40) ∧ Fr [rb] w w' ∧ StackAt w' rb tt (stepR ks r t rs) := by
  obtain ⟨cur, hc, hs, ht⟩ := id hst
  have hl40 : cur.toList.length = 40 := by rw [Array.length_toList]; exact hs
  rcases hok with ⟨hd, c, hcol, hcl, _⟩ | ⟨hd, ha⟩
  · have e : stepR ks r t rs = holdsB ks[c] t.dO (r[c]'(by omega)).1 (r[c]'(by omega)).2 t.n t.s :: rs := by
      unfold stepR
      rw [if_neg (by omega), if_neg (by omega), if_neg (by omega), hcol]
      simp [List.getD, hcl, hlen ▸ hcl]
    rw [e, hcol]
    refine (answer_cmp sc scap ks tv rb rs.length t.dO t.n c t.s g rcap r cur tt w hks hcl hin (by omega) (by simp; omega) (by simp; omega) (by simp; omega) (by omega) hc hs n1 n2).mono ?_
    rintro e w' ⟨rfl, hF, hb⟩
    refine ⟨by simp, hF, _, hb, by simpa using hs, ?_⟩
    rw [Array.toList_setIfInBounds, List.length_cons, take_set1 _ _ _ (by omega), ht]
    simp
  · rcases hd with hd | hd | hd <;> rw [hd] at ha ⊢ <;> simp [takesI] at ha
    · match rs, ha with
      | [], ha => simp at ha
      | [b], ha => simp at ha
      | b :: a :: q, _ =>
        have e : stepR ks r t (b :: a :: q) = (a && b) :: q := by unfold stepR; rw [if_pos hd]
        rw [e]
        refine (answer_and _ tv _ rb q.length a b t.col t.n t.s cur tt w (by simp at h39; omega) hc (hst.cell _ _ (by simp)) (hst.cell _ _ (by simp))).mono ?_
        rintro e w' ⟨rfl, hF, hb⟩
        refine ⟨by simp, hF, _, hb, by simpa using hs, ?_⟩
        simp only [List.length_cons, List.reverse_cons, List.map_append] at ht ⊢
        rw [Array.toList_setIfInBounds, take_set1 _ _ _ (by simp at h39; omega)]
        have e2 : cur.toList.take q.length = (cur.toList.take (q.length + 1 + 1)).take q.length := by rw [List.take_take]; congr 1; omega
        rw [e2, ht]
        simp
    · match rs, ha with
      | [], ha => simp at ha
      | [b], ha => simp at ha
      | b :: a :: q, _ =>
        have e : stepR ks r t (b :: a :: q) = (a || b) :: q := by unfold stepR; rw [if_neg (by omega), if_pos hd]
        rw [e]
        refine (answer_or _ tv _ rb q.length a b t.col t.n t.s cur tt w (by simp at h39; omega) hc (hst.cell _ _ (by simp)) (hst.cell _ _ (by simp))).mono ?_
        rintro e w' ⟨rfl, hF, hb⟩
        refine ⟨by simp, hF, _, hb, by simpa using hs, ?_⟩
        simp only [List.length_cons, List.reverse_cons, List.map_append] at ht ⊢
        rw [Array.toList_setIfInBounds, take_set1 _ _ _ (by simp at h39; omega)]
        have e2 : cur.toList.take q.length = (cur.toList.take (q.length + 1 + 1)).take q.length := by rw [List.take_take]; congr 1; omega
        rw [e2, ht]
        simp
    · match rs, ha with
      | [], ha => simp at ha
      | a :: q, _ =>
        have e : stepR ks r t (a :: q) = (!a) :: q := by unfold stepR; rw [if_neg (by omega), if_neg (by omega), if_pos hd]
        rw [e]
        refine (answer_not _ tv _ rb q.length a t.col t.n t.s cur tt w (by simp at h39; omega) hc (hst.cell _ _ (by simp))).mono ?_
        rintro e w' ⟨rfl, hF, hb⟩
        refine ⟨by simp, hF, _, hb, by simpa using hs, ?_⟩
        simp only [List.length_cons, List.reverse_cons, List.map_append] at ht ⊢
        rw [Array.toList_setIfInBounds, take_set1 _ _ _ (by simp at h39; omega)]
        have e2 : cur.toList.take q.length = (cur.toList.take (q.length + 1)).take q.length := by rw [List.take_take]; congr 1; omega
        rw [e2, ht]
        simp

theorem StackAt.keep {w w' : World} {rb : Nat} {tt : TypeId} {rs : List Bool} (h : StackAt w rb tt rs) (hb : w'.heap[rb]? = w.heap[rb]?) : StackAt w' rb tt rs := by
  obtain ⟨cur, h1, h2⟩ := h
  exact ⟨cur, hb.trans h1, h2⟩
theorem StackAt.lt {w : World} {rb : Nat} {tt : TypeId} {rs : List Bool} (h : StackAt w rb tt rs) : rb < w.heap.size := by
  obtain ⟨cur, h1, _⟩ := h
  exact (Array.getElem?_eq_some_iff.1 h1).1

theorem new_second (w : World) (o1 o2 : Obj) : ((w.alloc o1).alloc o2).heap[w.heap.size + 1]? = some o2 := by
  rw [show w.heap.size + 1 = (w.alloc o1).heap.size by simp]; exact heap_alloc_new _ _

set_option maxRecDepth 100000 in
set_option maxHeartbeats 1000000 in
theorem passes_ok (sc scap tcap : Nat) (ta : Option Addr) (ks : List Int) (T : List Tst) (g rcap : Nat) (r : List (Int × ByteArray)) (w : World) (hk : 0 < ks.length) (hks : KindsIn w sc ks) (hin : RowIn w g r) (hlen : r.length = ks.length) (hT : TestsAt w ta T) (hv : ValidT ks T) :
    Calls Tryd.prog 49 #[.agg #[.slice (some ⟨sc, 0, none⟩) ks.length scap, .slice ta T.length tcap], .slice (some ⟨g, 0, none⟩) r.length rcap] w fun e w' => e = .returned (.bool (passB ks r T)) ∧ Below w.heap.size w w' := by
  have hsc : sc < w.heap.size := hks.lt hk
  have hg : g < w.heap.size := hin.lt (by omega)
  have HV : Hid (ValidT ks T) := hv
  have HT : Hid (TestsAt w ta T) := hT
  have HKS : Hid (KindsIn w sc ks) := hks
  have HIN : Hid (RowIn w g r) := hin
  have HLEN : Hid (r.length = ks.length) := hlen
  clear hv hT hks hin hlen
  go_enter Tryd.func49, Tryd.ntmps49
  go_wp2_with fail
  go_loopw [6, 13] (fun av i wr => ∃ k : Nat, k ≤ T.length ∧ i = .int .i64 k ∧ av = .slice (some ⟨w.heap.size + 1, 0, none⟩) (runR ks r (T.take k) []).length 40 ∧ Below w.heap.size w wr ∧
    wr.heap[w.heap.size]? = some (.cells #[.slice (some ⟨sc, 0, none⟩) ks.length scap, .slice ta T.length tcap] 92 (0, 0)) ∧ StackAt wr (w.heap.size + 1) 141 (runR ks r (T.take k) [])) (fun _ i _ => T.length - (intOf i).toNat)
  case atStart =>
    refine ⟨0, Nat.zero_le _, rfl, rfl, ((Below.refl _ _).alloc (Nat.le_refl _) _).alloc (by simp) _, ?_, ?_⟩
    · rw [Below.heap_alloc _ _ _ (by simp)]; exact heap_alloc_new w _
    · exact ⟨_, new_second w _ _, rfl, by simp [runR]⟩
  case round =>
    obtain ⟨k, hk, rfl, rfl, hB, hbox, hst⟩ := hrel
    have hrl := runR_length ks r T HV.out.ok k hk
    have hcb := cntI_bd (T.take k) 0
    have hll : (T.take k).length = k := by simp; omega
    have h40 := HV.out.few
    have hz1 : w.heap.size + 1 < wr.heap.size := hst.lt
    by_cases hlt : k < T.length
    · rcases HT.out with h0 | ⟨tg, rfl, tin⟩
      · rw [h0] at hlt; simp at hlt
      have htg : tg < w.heap.size := tin.lt (by omega)
      obtain ⟨c1, c2, c3, c4⟩ := tin k hlt
      have e : ∀ o, wr.cell? ⟨tg, o, none⟩ = w.cell? ⟨tg, o, none⟩ := fun o => hB.cell (p := ⟨tg, o, none⟩) htg
      rw [← e] at c1 c2 c3 c4
      have b0 : wr.cell? ⟨w.heap.size, 0, none⟩ = some (.slice (some ⟨sc, 0, none⟩) ks.length scap) := by rw [cell_of_row _ _ _ _ _ _ hbox]; rfl
      have b1 : wr.cell? ⟨w.heap.size, 1, none⟩ = some (.slice (some ⟨tg, 0, none⟩) T.length tcap) := by rw [cell_of_row _ _ _ _ _ _ hbox]; rfl
      have b0' : ∀ o, (wr.alloc o).cell? ⟨w.heap.size, 0, none⟩ = some (.slice (some ⟨sc, 0, none⟩) ks.length scap) := fun o => (cell_alloc wr o _ _ (by omega)).trans b0
      have b1' : ∀ o, (wr.alloc o).cell? ⟨w.heap.size, 1, none⟩ = some (.slice (some ⟨tg, 0, none⟩) T.length tcap) := fun o => (cell_alloc wr o _ _ (by omega)).trans b1
      clear b0 b1
      have HB : Hid (wr.heap[w.heap.size]? = some (.cells #[.slice (some ⟨sc, 0, none⟩) ks.length scap, .slice (some ⟨tg, 0, none⟩) T.length tcap] 92 (0, 0))) := hbox
      have HS : Hid (StackAt wr (w.heap.size + 1) 141 (runR ks r (T.take k) [])) := hst
      have HR : Hid (runR ks r (T.take (k + 1)) [] = stepR ks r T[k] (runR ks r (T.take k) [])) := runR_succ ks r T k hlt
      have HOK : Hid (okT ks T[k] ((runR ks r (T.take k) []).length : Nat)) := by have := HV.out.ok k hlt; rw [← hrl] at this; exact this
      have h39 : (runR ks r (T.take k) []).length ≤ 39 := by omega
      have TIN : Hid (TestsIn w tg T) := tin
      clear e hbox hst tin hrl hcb hll
      generalize runR ks r (T.take k) [] = rs at *
      go_wp2_with fail
      refine (answer_any sc scap ks _ (w.heap.size + 1) T[k] g rcap r rs 141 _ (HKS.out.keep ((Below.heap_alloc _ _ _ (by omega)).trans (hB.block sc hsc))) (HIN.out.keep ((Below.heap_alloc _ _ _ (by omega)).trans (hB.block g hg))) HLEN.out HOK.out h39 (HS.out.keep (Below.heap_alloc _ _ _ hz1)) (by omega) (by omega)).mono ?_
      rintro e w1 ⟨rfl, hF, hst⟩
      go_wp2
      go_roundw
      case rel =>
        refine ⟨k + 1, by omega, by go_num, by rw [HR.out], (hB.alloc (by omega) _).trans (hF.below (by simp; omega) (by simp)), ?_, by rw [HR.out]; exact hst⟩
        rw [hF.block w.heap.size (by simp; omega) (by simp), Below.heap_alloc _ _ _ (by omega)]
        exact HB.out
      case measure => simp [intOf]; omega
    · have hke : k = T.length := by omega
      have e0 : T.take k = T := by rw [hke, List.take_length]
      rw [e0] at hrl hst ⊢
      have hpost : (runR ks r T [] = [] ∧ passB ks r T = true) ∨ ∃ b, runR ks r T [] = [b] ∧ passB ks r T = b := by
        rcases HV.out.one with h | h
        · left; subst h; exact ⟨rfl, rfl⟩
        · right
          rw [h] at hrl
          obtain ⟨b, hb⟩ := List.length_eq_one_iff.1 (show (runR ks r T []).length = 1 by omega)
          exact ⟨b, hb, by unfold passB; rw [hb]⟩
      clear hrl hcb hll
      rcases hpost with ⟨h1, h2⟩ | ⟨b, h1, h2⟩
      · rw [h1] at hst ⊢
        have HP : Hid (passB ks r T = true) := h2
        clear h1 h2 hke e0
        go_wp2
        go_ret
        exact ⟨ret_bool HP.out.symm, hB⟩
      · rw [h1] at hst ⊢
        have HP : Hid (passB ks r T = b) := h2
        have cb := hst.cell 0 b rfl
        clear h1 h2 hke e0
        go_wp2
        go_ret
        exact ⟨ret_bool HP.out.symm, hB⟩

end Go.Proofs.YtcconhgbefhdeaaDoor
