import Derived.Test.YtcconhgbefhdeaaDoorPair
import Derived.Lib.SliceRun
namespace Go.Proofs.YtcconhgbefhdeaaDoor
open Go.RowKit
attribute [local go_sem ↓] Go.wp_at_zero Go.wp_at_succ

/-- What appends leaves. -/
def AppPost (S : Nat → Prop) (bt br : Nat) (ks : List Int) (rows : List (List (Int × ByteArray))) (r : List (Int × ByteArray)) (w : World) (e : Ending) (w' : World) : Prop :=
  e = .returned (.bool true) ∧ Pair w' (fun b => S b ∨ w.heap.size ≤ b) bt br ks (rowsAfter ks rows r) ∧ FrS S w w'

theorem lentV_length (r : List (Int × ByteArray)) : (lentV r).length = r.length + 2 := by simp [lentV, pads]

theorem app_close {S : Nat → Prop} {bt br : Nat} {ks : List Int} {rows : List (List (Int × ByteArray))} {w w1 w2 w3 w4 wr : World} {T T' : Nat → Prop} {n m : Nat}
    (hT : ∀ k, T k → S k ∧ k < w.heap.size) (hT' : ∀ k, T' k → S k ∧ k < w.heap.size) (hd : ∀ k, T k → ¬ T' k)
    (b1 : Below w.heap.size w w1) (z1 : w.heap.size < w1.heap.size) (k2 : TabOK w2 (fun b => T b ∨ (w1.heap.size ≤ b ∧ b < w2.heap.size)) bt ks rows) (f2 : FrS T w1 w2)
    (k3 : RefOK w3 (fun b => T' b ∨ ((w2.drewN n).heap.size ≤ b ∧ b < w3.heap.size)) br ks rows) (f3 : FrS T' (w2.drewN n) w3) (b4 : Below w3.heap.size w3 w4) (fr : Fr [w.heap.size] (w4.drewN m) wr) :
    Pair wr (fun b => S b ∨ w.heap.size ≤ b) bt br ks rows ∧ FrS S w wr := by
  have z2 : w1.heap.size ≤ w2.heap.size := f2.size
  have z3 : w2.heap.size ≤ w3.heap.size := f3.size
  have z4 : w3.heap.size ≤ w4.heap.size := b4.size
  have z5 : w4.heap.size ≤ wr.heap.size := fr.size
  have e5 : ∀ k, k < w4.heap.size → k ≠ w.heap.size → wr.heap[k]? = w4.heap[k]? := fun k hk hne => fr.block k hk (by simpa using hne)
  have e4 : ∀ k, k < w3.heap.size → w4.heap[k]? = w3.heap[k]? := fun k hk => b4.block k hk
  have e3 : ∀ k, k < w2.heap.size → ¬ T' k → w3.heap[k]? = w2.heap[k]? := fun k hk hn => f3.block k hk hn
  refine ⟨⟨_, _, k2.keep (fun _ h => h) (fun k hk ht => ?_), k3.keep (fun _ h => h) (fun k hk ht => ?_), fun k ht => ?_, fun k ht => ?_, fun k ht ht' => ?_⟩, ?_⟩
  · have hne : k ≠ w.heap.size := by rcases ht with ht | ht; have := (hT k ht).2; omega; omega
    have hn' : ¬ T' k := by
      rcases ht with ht | ht
      · exact hd k ht
      · intro h; have := (hT' k h).2; omega
    rw [e5 k (by omega) hne, e4 k (by omega), e3 k hk hn']
  · have hne : k ≠ w.heap.size := by
      rcases ht with ht | ht
      · have := (hT' k ht).2; omega
      · have : w2.heap.size ≤ k := ht.1
        omega
    rw [e5 k (by omega) hne, e4 k hk]
  · rcases ht with ht | ht
    · exact ⟨.inl (hT k ht).1, by have := (hT k ht).2; omega⟩
    · exact ⟨.inr (by omega), by omega⟩
  · rcases ht with ht | ht
    · exact ⟨.inl (hT' k ht).1, by have := (hT' k ht).2; omega⟩
    · have : w2.heap.size ≤ k := ht.1
      exact ⟨.inr (by omega), by omega⟩
  · rcases ht with ht | ht <;> rcases ht' with ht' | ht'
    · exact hd k ht ht'
    · have : w2.heap.size ≤ k := ht'.1
      have := (hT k ht).2; omega
    · have := (hT' k ht').2; omega
    · have : w2.heap.size ≤ k := ht'.1
      omega
  · refine ⟨fr.os.trans (b4.os.trans (f3.os.trans (f2.os.trans b1.os))), fr.tape.trans (b4.tape.trans (f3.tape.trans (f2.tape.trans b1.tape))), fr.output.trans (b4.output.trans (f3.output.trans (f2.output.trans b1.output))), by omega, fun k hk hn => ?_⟩
    rw [e5 k (by omega) (by omega), e4 k (by omega), e3 k (by omega) (fun h => hn (hT' k h).1), f2.block k (by omega) (fun h => hn (hT k h).1), b1.block k hk]

set_option maxRecDepth 100000 in
set_option maxHeartbeats 1000000 in
theorem appends_any (S : Nat → Prop) (bt br : Nat) (ks : List Int) (rows : List (List (Int × ByteArray))) (r : List (Int × ByteArray)) (ra : Option Addr) (cap : Nat) (w : World) (hE : ErrType w) (h : Pair w S bt br ks rows) (hg : GoodK ks) (hl : rows.length ≤ 1000) (hin : RowA w ra r) (hn : r ≠ [] → ∀ a, ra = some a → ¬ S a.block) (hlen : r.length ≤ 9000000) :
    Calls Tryd.prog 20 #[.pointer (some ⟨bt, 0, none⟩), .pointer (some ⟨br, 0, none⟩), .slice ra r.length cap] w (AppPost S bt br ks rows r w) := by
  obtain ⟨T, T', hTab, hRef, hT, hT', hd⟩ := h.ex
  have hnil : ra = none → r = [] := fun e => by
    rcases hin with h | ⟨g, zo, h, _⟩
    · exact h
    · rw [e] at h; cases h
  -- the list that is handed in, at later worlds
  have hinK : ∀ w', (∀ k, k < w.heap.size → ¬ S k → w'.heap[k]? = w.heap[k]?) → RowA w' ra r := fun w' hb => by
    rcases hin with h | ⟨g, zo, h, h2⟩
    · exact .inl h
    · by_cases h0 : 0 < r.length
      · exact .inr ⟨g, zo, h, h2.keep (hb g (h2.lt h0) (hn (by intro e; rw [e] at h0; simp at h0) _ h))⟩
      · exact .inl (List.eq_nil_of_length_eq_zero (by omega))
  have HIN : Hid (∀ w', (∀ k, k < w.heap.size → ¬ S k → w'.heap[k]? = w.heap[k]?) → RowA w' ra r) := hinK
  have HNIL : Hid (ra = none → r = []) := hnil
  clear hinK hnil hn
  go_enter Tryd.func20, Tryd.ntmps20
  go_wp2_with fail
  refine (values_any ra cap r w hin hlen).mono ?_
  rintro e w1 ⟨rfl, hA, b1⟩
  have z1 : w.heap.size < w1.heap.size := (Array.getElem?_eq_some_iff.1 hA).1
  have HA : Hid (w1.heap[w.heap.size]? = some (.cells (vcells (lentV r)).toArray 30 (0, 0))) := hA
  clear hA hin
  have hA1 : RowIn w1 w.heap.size r := RowIn.of_block HA.out (by
    rw [List.toList_toArray, lentV, vcells_append, List.take_append_of_le_length (by rw [vcells_length]; omega), List.take_of_length_le (by rw [vcells_length]; omega)])
  have HA1 : Hid (RowIn w1 w.heap.size r) := hA1
  clear hA1
  have i0 : (0 : Int) ≤ (r.length : Int) := by omega
  have i1 : (r.length : Int) ≤ (r.length : Int) + 2 := by omega
  have hq : ∀ (W : World) (a : Option Addr) (n c n' c' : Nat), (binOp .eql 25 (.slice a n c) (.slice none n' c')).run Tryd.prog W = .ok (.bool (a.isNone)) W := fun W a n c n' c' => Lib.run_eql_slice_nil W _ _ a n c n' c' Tryd.underlying25
  have hra : ra = none ∨ ∃ a, ra = some a := by cases ra; exact .inl rfl; exact .inr ⟨_, rfl⟩
  rcases hra with rfl | ⟨a, rfl⟩
  rotate_left
  · go_wp2_with fail
    refine (tabAppends_any T bt ks rows r (some ⟨w.heap.size, 0, none⟩) (r.length + 2) w1 (hE.below b1) (hTab.keep (fun _ h => h) (fun k hk _ => b1.block k hk)) hg hl (.inr ⟨_, rfl, HA1.out⟩)).mono ?_
    rintro e w2 ⟨v, rfl, herr, hTab2, f2⟩
    have HT2 : Hid (TabOK w2 (fun b => T b ∨ (w1.heap.size ≤ b ∧ b < w2.heap.size)) bt ks (rowsAfter ks rows r)) := hTab2
    clear hTab2
    go_wp2_with fail
    refine (lawFault_any v _ _ w2 herr).mono ?_
    rintro e _ ⟨rfl, n, rfl⟩
    have hk2 : ∀ k, k < w.heap.size → ¬ T k → (w2.drewN n).heap[k]? = w.heap[k]? := fun k hk hn => (f2.block k (by have := b1.size; omega) hn).trans (b1.block k hk)
    have HK2 : Hid (∀ k, k < w.heap.size → ¬ T k → (w2.drewN n).heap[k]? = w.heap[k]?) := hk2
    clear hk2
    go_wp2_with fail
    refine (refAppends1_any T' br ks rows r _ cap (w2.drewN n) (hRef.keep (fun _ h => h) (fun k hk ht => HK2.out k hk (fun h => hd k h ht))) hg hl (HIN.out _ (fun k hk hn => HK2.out k hk (fun h => hn (hT k h).1)))).mono ?_
    rintro e w3 ⟨rfl, hRef3, f3⟩
    have HR3 : Hid (RefOK w3 (fun b => T' b ∨ ((w2.drewN n).heap.size ≤ b ∧ b < w3.heap.size)) br ks (rowsAfter ks rows r)) := hRef3
    clear hRef3
    have hk3 : ∀ k, k < w.heap.size → ¬ S k → w3.heap[k]? = w.heap[k]? := fun k hk hn => (f3.block k (by have := b1.size; have := f2.size; show k < w2.heap.size; omega) (fun h => hn (hT' k h).1)).trans (HK2.out k hk (fun h => hn (hT k h).1))
    have HK3 : Hid (∀ k, k < w.heap.size → ¬ S k → w3.heap[k]? = w.heap[k]?) := hk3
    clear hk3
    go_wp2_with fail
    refine (values_any _ cap r w3 (HIN.out _ HK3.out) hlen).mono ?_
    rintro e w4 ⟨rfl, hW, b4⟩
    have hA4 : w4.heap[w.heap.size]? = some (.cells (vcells (lentV r)).toArray 30 (0, 0)) := by
      have q2 := f2.size
      have q3 : w2.heap.size ≤ w3.heap.size := f3.size
      rw [b4.block _ (by omega), f3.block _ (show _ < w2.heap.size by omega) (fun h => by have := (hT' _ h).2; omega)]
      show w2.heap[w.heap.size]? = _
      rw [f2.block _ z1 (fun h => by have := (hT _ h).2; omega)]
      exact HA.out
    have HA4 : Hid (w4.heap[w.heap.size]? = some (.cells (vcells (lentV r)).toArray 30 (0, 0))) := hA4
    have hs := sameValues_eq w.heap.size w3.heap.size (r.length + 2) (r.length + 2) (lentV r) w4 (RowIn.of_block hA4 (by rw [List.toList_toArray, ← vcells_length, List.take_length])) (RowIn.of_block hW (by rw [List.toList_toArray, ← vcells_length, List.take_length])) (by rw [lentV_length]; omega)
    rw [lentV_length] at hs
    clear hA4 hW
    go_wp2_with fail
    refine hs.mono ?_
    rintro e _ ⟨rfl, m, rfl⟩
    clear hs
    go_wp2_with fail
    go_loopw [16] (fun i wr => ∃ k : Nat, k ≤ r.length + 2 ∧ i = .int .i64 k ∧ Fr [w.heap.size] (w4.drewN m) wr ∧ ∃ cur : Array Value, wr.heap[w.heap.size]? = some (.cells cur 30 (0, 0)) ∧ cur.size = 2 * (r.length + 2)) (fun i _ => r.length + 2 - (intOf i).toNat)
    case atStart => exact ⟨0, Nat.zero_le _, rfl, Fr.refl _ _, _, HA4.out, by simp [vcells_length, lentV_length]⟩
    case round =>
      obtain ⟨k, hk, rfl, hF, cur, hcur, hsz⟩ := hrel
      by_cases hlt : k < r.length + 2
      · obtain ⟨x1, e1⟩ : ∃ x, wr.cell? ⟨w.heap.size, k * 2, none⟩ = some x := by
          rw [cell_of_row _ _ _ _ _ _ hcur]; exact ⟨_, Array.getElem?_eq_getElem (by omega)⟩
        obtain ⟨x2, e2⟩ : ∃ x, wr.cell? ⟨w.heap.size, k * 2 + 1, none⟩ = some x := by
          rw [cell_of_row _ _ _ _ _ _ hcur]; exact ⟨_, Array.getElem?_eq_getElem (by omega)⟩
        have f1 : wr.frozen? ⟨w.heap.size, k * 2, none⟩ = false := by simp [World.frozen?, hcur]
        have f2 : wr.frozen? ⟨w.heap.size, k * 2 + 1, none⟩ = false := by simp [World.frozen?, hcur]
        have i0 : (0 : Int) ≤ (k : Int) := by omega
        have i1 : (k : Int) < (r.length : Int) + 2 := by omega
        have HCUR : Hid (wr.heap[w.heap.size]? = some (.cells cur 30 (0, 0))) := hcur
        clear hcur
        go_wp2
        go_roundw
        case rel =>
          refine ⟨k + 1, by omega, by go_num, (hF.setCell (p := ⟨w.heap.size, _, none⟩) (.inl (by simp)) _).setCell (p := ⟨w.heap.size, _, none⟩) (.inl (by simp)) _, _, heap_setCell_same _ _ _ _ _ _ (heap_setCell_same _ _ _ _ _ _ HCUR.out), by simpa using hsz⟩
        case measure => simp [intOf]; omega
      · have i1 : ¬ (k : Int) < (r.length : Int) + 2 := by omega
        clear hcur
        go_wp2
        go_ret
        exact ⟨by simp, app_close hT hT' hd b1 z1 HT2.out f2 HR3.out f3 b4 hF⟩
  · have HE : Hid (r = []) := HNIL.out rfl
    have ht := tabAppends_any T bt ks rows r none 0 w1 (hE.below b1) (hTab.keep (fun _ h => h) (fun k hk _ => b1.block k hk)) hg hl (.inl HE.out)
    rw [show r.length = 0 by rw [HE.out]; rfl] at ht
    go_wp2_with fail
    refine ht.mono ?_
    clear ht
    rintro e w2 ⟨v, rfl, herr, hTab2, f2⟩
    have HT2 : Hid (TabOK w2 (fun b => T b ∨ (w1.heap.size ≤ b ∧ b < w2.heap.size)) bt ks (rowsAfter ks rows r)) := hTab2
    clear hTab2
    go_wp2_with fail
    refine (lawFault_any v _ _ w2 herr).mono ?_
    rintro e _ ⟨rfl, n, rfl⟩
    have hk2 : ∀ k, k < w.heap.size → ¬ T k → (w2.drewN n).heap[k]? = w.heap[k]? := fun k hk hn => (f2.block k (by have := b1.size; omega) hn).trans (b1.block k hk)
    have HK2 : Hid (∀ k, k < w.heap.size → ¬ T k → (w2.drewN n).heap[k]? = w.heap[k]?) := hk2
    clear hk2
    go_wp2_with fail
    refine (refAppends1_any T' br ks rows r _ cap (w2.drewN n) (hRef.keep (fun _ h => h) (fun k hk ht => HK2.out k hk (fun h => hd k h ht))) hg hl (HIN.out _ (fun k hk hn => HK2.out k hk (fun h => hn (hT k h).1)))).mono ?_
    rintro e w3 ⟨rfl, hRef3, f3⟩
    have HR3 : Hid (RefOK w3 (fun b => T' b ∨ ((w2.drewN n).heap.size ≤ b ∧ b < w3.heap.size)) br ks (rowsAfter ks rows r)) := hRef3
    clear hRef3
    have hk3 : ∀ k, k < w.heap.size → ¬ S k → w3.heap[k]? = w.heap[k]? := fun k hk hn => (f3.block k (by have := b1.size; have := f2.size; show k < w2.heap.size; omega) (fun h => hn (hT' k h).1)).trans (HK2.out k hk (fun h => hn (hT k h).1))
    have HK3 : Hid (∀ k, k < w.heap.size → ¬ S k → w3.heap[k]? = w.heap[k]?) := hk3
    clear hk3
    go_wp2_with fail
    refine (values_any _ cap r w3 (HIN.out _ HK3.out) hlen).mono ?_
    rintro e w4 ⟨rfl, hW, b4⟩
    have hA4 : w4.heap[w.heap.size]? = some (.cells (vcells (lentV r)).toArray 30 (0, 0)) := by
      have q2 := f2.size
      have q3 : w2.heap.size ≤ w3.heap.size := f3.size
      rw [b4.block _ (by omega), f3.block _ (show _ < w2.heap.size by omega) (fun h => by have := (hT' _ h).2; omega)]
      show w2.heap[w.heap.size]? = _
      rw [f2.block _ z1 (fun h => by have := (hT _ h).2; omega)]
      exact HA.out
    have HA4 : Hid (w4.heap[w.heap.size]? = some (.cells (vcells (lentV r)).toArray 30 (0, 0))) := hA4
    have hs := sameValues_eq w.heap.size w3.heap.size (r.length + 2) (r.length + 2) (lentV r) w4 (RowIn.of_block hA4 (by rw [List.toList_toArray, ← vcells_length, List.take_length])) (RowIn.of_block hW (by rw [List.toList_toArray, ← vcells_length, List.take_length])) (by rw [lentV_length]; omega)
    rw [lentV_length] at hs
    clear hA4 hW
    go_wp2_with fail
    refine hs.mono ?_
    rintro e _ ⟨rfl, m, rfl⟩
    clear hs
    go_wp2_with fail
    go_loopw [16] (fun i wr => ∃ k : Nat, k ≤ r.length + 2 ∧ i = .int .i64 k ∧ Fr [w.heap.size] (w4.drewN m) wr ∧ ∃ cur : Array Value, wr.heap[w.heap.size]? = some (.cells cur 30 (0, 0)) ∧ cur.size = 2 * (r.length + 2)) (fun i _ => r.length + 2 - (intOf i).toNat)
    case atStart => exact ⟨0, Nat.zero_le _, rfl, Fr.refl _ _, _, HA4.out, by simp [vcells_length, lentV_length]⟩
    case round =>
      obtain ⟨k, hk, rfl, hF, cur, hcur, hsz⟩ := hrel
      by_cases hlt : k < r.length + 2
      · obtain ⟨x1, e1⟩ : ∃ x, wr.cell? ⟨w.heap.size, k * 2, none⟩ = some x := by
          rw [cell_of_row _ _ _ _ _ _ hcur]; exact ⟨_, Array.getElem?_eq_getElem (by omega)⟩
        obtain ⟨x2, e2⟩ : ∃ x, wr.cell? ⟨w.heap.size, k * 2 + 1, none⟩ = some x := by
          rw [cell_of_row _ _ _ _ _ _ hcur]; exact ⟨_, Array.getElem?_eq_getElem (by omega)⟩
        have f1 : wr.frozen? ⟨w.heap.size, k * 2, none⟩ = false := by simp [World.frozen?, hcur]
        have f2 : wr.frozen? ⟨w.heap.size, k * 2 + 1, none⟩ = false := by simp [World.frozen?, hcur]
        have i0 : (0 : Int) ≤ (k : Int) := by omega
        have i1 : (k : Int) < (r.length : Int) + 2 := by omega
        have HCUR : Hid (wr.heap[w.heap.size]? = some (.cells cur 30 (0, 0))) := hcur
        clear hcur
        go_wp2
        go_roundw
        case rel =>
          refine ⟨k + 1, by omega, by go_num, (hF.setCell (p := ⟨w.heap.size, _, none⟩) (.inl (by simp)) _).setCell (p := ⟨w.heap.size, _, none⟩) (.inl (by simp)) _, _, heap_setCell_same _ _ _ _ _ _ (heap_setCell_same _ _ _ _ _ _ HCUR.out), by simpa using hsz⟩
        case measure => simp [intOf]; omega
      · have i1 : ¬ (k : Int) < (r.length : Int) + 2 := by omega
        clear hcur
        go_wp2
        go_ret
        exact ⟨by simp, app_close hT hT' hd b1 z1 HT2.out f2 HR3.out f3 b4 hF⟩

end Go.Proofs.YtcconhgbefhdeaaDoor
