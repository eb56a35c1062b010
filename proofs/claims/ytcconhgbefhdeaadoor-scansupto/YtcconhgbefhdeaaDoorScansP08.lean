import Derived.Test.YtcconhgbefhdeaaDoorScansP07
import Derived.Laws.CopyRow
import Derived.Test.YtcconhgbefhdeaaDoorScansP05
import Derived.Deep.QuietTactic
import Derived.BigQuiet
namespace Go.Proofs.YtcconhgbefhdeaaDoor
open Go.RowKit
attribute [local go_sem ↓] Go.wp_at_zero Go.wp_at_succ

theorem run_copy_sized {P : Program} (w : World) (dT sT elem : TypeId) (g dLen dCap : Nat) (sa : Option Addr) (sLen sCap : Nat) (cur : Array Value) (t : TypeId) (cs : List Value) (size : Nat)
    (hu : P.underlying dT = some (.slice elem)) (hs : (P.info? elem).map (·.size) = some size)
    (hg : w.heap[g]? = some (.cells cur t (0, 0))) (hle : sLen ≤ dLen) (hn : cs.length = sLen * size)
    (hsrc : (sLen = 0) ∨ ∃ a, sa = some a ∧ ∀ j v, cs[j]? = some v → w.cell? (a.add j) = some v) (hfit : cs.length ≤ cur.size) (h1 : ∀ v ∈ cs, v.oneCell' = true) :
    ∃ w', (∀ ty, (Builtin.copy_ #[dT, sT] ty #[.slice (some ⟨g, 0, none⟩) dLen dCap, .slice sa sLen sCap]).run P w = .ok (goInt sLen) w') ∧ w'.heap[g]? = some (.cells (cs ++ cur.toList.drop cs.length).toArray t (0, 0)) ∧ (∀ B w0, Below B w0 w → B ≤ g → Below B w0 w') ∧ w'.heap.size = w.heap.size ∧ (∀ k, k ≠ g → w'.heap[k]? = w.heap[k]?) := by
  refine ⟨w.setRow g (cs ++ cur.toList.drop cs.length).toArray, fun ty => ?_, setRow_heap w g cur _ t _ hg, fun B w0 hb hB => hb.trans ⟨rfl, rfl, rfl, by simp, fun k hk => setRow_other w g k _ (by omega)⟩, by simp, fun k hk => setRow_other w g k _ hk⟩
  have hst := run_storeCells_at P g 0 t cs 0 cur w hg (by simpa using hfit) h1
  simp only [Nat.zero_add, List.take_zero, List.nil_append] at hst
  have hmin : Nat.min sLen dLen = sLen := Nat.min_eq_left hle
  cases hq : P.info? elem with
  | none => simp [hq] at hs
  | some i =>
    have hi : i.size = size := by simpa [hq] using hs
    rcases hsrc with h0 | ⟨a, rfl, hsrc⟩
    · subst h0
      have hcs : cs = [] := List.eq_nil_of_length_eq_zero (by omega)
      subst hcs
      have hl : ∀ (x : Addr), (loadCells x 0).run P w = .ok #[] w := fun x => by simpa using run_loadCells_list (P := P) w x [] (by simp)
      cases sa <;> simp [Builtin.copy_, run_underlying hu, Builtin.lenOf, Builtin.firstCells, sizeOf, typeInfo, hq, hmin, hl, hst]
    · have hl := run_loadCells_list (P := P) w a cs hsrc
      simp [Builtin.copy_, run_underlying hu, Builtin.lenOf, Builtin.firstCells, sizeOf, typeInfo, hq, hi, hmin, ← hn, hl, hst]

theorem info_int : (Tryd.prog.info? 3).map (fun i => (i.zero, i.size, i.bytes)) = some (some (.int .i64 0), 1, 8) := by kernel_rfl

theorem make_ints (n : Nat) (hn : n ≤ 9000000) : ∃ M : Array Value, M.size = n + 2 ∧ ∀ W : World, (Instr.makeSlice 24 (.int .i64 ((n : Int) + 2)) (.int .i64 ((n : Int) + 2))).run Tryd.prog W = .ok (.slice (some ⟨W.heap.size, 0, none⟩) (n + 2) (n + 2)) (W.alloc (.cells M 3)) := by
  obtain ⟨i, hi, hz, h2, h24⟩ := info_parts info_int
  refine ⟨madeCells (Value.int .i64 0).cells ((((n : Nat) : Int) + 2).toNat * i.size), ?_, fun W => ?_⟩
  · rw [size_madeCells, h2]; omega
  · have h := run_make (P := Tryd.prog) W 24 3 i _ Tryd.underlying24 hi hz .i64 .i64 ((n : Int) + 2) ((n : Int) + 2) (by omega) (by omega) (by rw [h24]; omega) (by omega)
    have e : ((n : Int) + 2).toNat = n + 2 := by omega
    rw [e] at h ⊢
    exact h

theorem KindsAt.src {w : World} {sa : Option Addr} {ks : List Int} (h : KindsAt w sa ks) : ks.length = 0 ∨ ∃ a, sa = some a ∧ a.block < w.heap.size ∧ ∀ j v, (ks.map (Value.int .i64))[j]? = some v → w.cell? (a.add j) = some v := by
  rcases h with h | ⟨g, rfl, h⟩
  · left; rw [h]; rfl
  · by_cases h0 : ks.length = 0
    · exact .inl h0
    · refine .inr ⟨_, rfl, h.lt (by omega), fun j v hv => ?_⟩
      have hadd : (⟨g, 0, none⟩ : Addr).add j = ⟨g, j, none⟩ := by unfold Addr.add; split <;> simp_all
      rw [hadd]
      simp only [List.getElem?_map, Option.map_eq_some_iff] at hv
      obtain ⟨x, hx, rfl⟩ := hv
      obtain ⟨hj, rfl⟩ := List.getElem?_eq_some_iff.1 hx
      exact h j hj

theorem KindsA.src {w : World} {sa : Option Addr} {ks : List Int} (h : KindsA w sa ks) : ks.length = 0 ∨ ∃ a, sa = some a ∧ a.block < w.heap.size ∧ ∀ j v, (ks.map (Value.int .i64))[j]? = some v → w.cell? (a.add j) = some v := by
  rcases h with h | ⟨g, zo, rfl, h⟩
  · left; rw [h]; rfl
  · by_cases h0 : ks.length = 0
    · exact .inl h0
    · refine .inr ⟨_, rfl, h.lt (by omega), fun j v hv => ?_⟩
      rw [addr_plus]
      simp only [List.getElem?_map, Option.map_eq_some_iff] at hv
      obtain ⟨x, hx, rfl⟩ := hv
      obtain ⟨hj, rfl⟩ := List.getElem?_eq_some_iff.1 hx
      exact h j hj

/-- A list of numbers that is lent: two of the caller's stand behind it. -/
def lentI (ks : List Int) : List Value := (ks ++ [77, 77]).map (Value.int .i64)

set_option maxRecDepth 100000 in
set_option maxHeartbeats 1000000 in
theorem numbers_any (sa : Option Addr) (cap : Nat) (ks : List Int) (w : World) (hks : KindsA w sa ks) (hl : ks.length ≤ 9000000) :
    Calls Tryd.prog 35 #[.slice sa ks.length cap] w fun e w' => e = .returned (.slice (some ⟨w.heap.size, 0, none⟩) (ks.length + 2) (ks.length + 2)) ∧ w'.heap[w.heap.size]? = some (.cells (lentI ks).toArray 3 (0, 0)) ∧ Below w.heap.size w w' ∧ w'.heap.size = w.heap.size + 1 := by
  obtain ⟨M, hMs, hmk⟩ := make_ints ks.length hl
  have hsrc : ks.length = 0 ∨ ∃ a, sa = some a ∧ ∀ j v, (ks.map (Value.int .i64))[j]? = some v → (w.alloc (.cells M 3)).cell? (a.add j) = some v := by
    rcases hks.src with h | ⟨a, h1, h2, h3⟩
    · exact .inl h
    · refine .inr ⟨a, h1, fun j v hv => ?_⟩
      have hb : (a.add j).block = a.block := by unfold Addr.add; split <;> rfl
      rw [← h3 j v hv]
      exact World.cell?_of_block (w := w) (a := a.add j) (by rw [hb]; exact Below.heap_alloc _ _ _ h2)
  obtain ⟨W1, hcp, hW1, hWB, hWz, _⟩ := run_copy_sized (P := Tryd.prog) (w.alloc (.cells M 3)) 24 24 3 w.heap.size (ks.length + 2) (ks.length + 2) sa ks.length cap M 3 (ks.map (Value.int .i64)) 1 Tryd.underlying24 (by kernel_rfl) (heap_alloc_new w _) (by omega) (by simp) hsrc (by simp; omega) (by simp [Value.oneCell'])
  have HB1 : Hid (Below w.heap.size w W1) := hWB _ _ ((Below.refl _ _).alloc (Nat.le_refl _) _) (Nat.le_refl _)
  have HW1 : Hid (W1.heap[w.heap.size]? = some (.cells (ks.map (Value.int .i64) ++ M.toList.drop (ks.map (Value.int .i64)).length).toArray 3 (0, 0))) := hW1
  have hWz' : W1.heap.size = w.heap.size + 1 := by rw [hWz]; simp
  clear hWB hW1 hks hsrc hWz
  unfold goInt at hcp
  go_enter Tryd.func35, Tryd.ntmps35
  go_wp2_with fail
  go_loopw [4] (fun i wr => ∃ k : Nat, ks.length ≤ k ∧ k ≤ ks.length + 2 ∧ i = .int .i64 k ∧ Below w.heap.size w wr ∧ wr.heap.size = w.heap.size + 1 ∧ ∃ cur : Array Value, wr.heap[w.heap.size]? = some (.cells cur 3 (0, 0)) ∧ cur.size = ks.length + 2 ∧ cur.toList.take k = ((ks ++ List.replicate (k - ks.length) 77).map (Value.int .i64))) (fun i _ => ks.length + 2 - (intOf i).toNat)
  case atStart => exact ⟨ks.length, Nat.le_refl _, by omega, rfl, HB1.out, hWz', _, HW1.out, by simp; omega, by simp⟩
  case round =>
    obtain ⟨k, hk1, hk2, rfl, hB, hzr, cur, hcur, hsz, htk⟩ := hrel
    by_cases hlt : k < ks.length + 2
    · obtain ⟨x1, e1⟩ : ∃ x, wr.cell? ⟨w.heap.size, k, none⟩ = some x := by
        rw [cell_of_row _ _ _ _ _ _ hcur]; exact ⟨_, Array.getElem?_eq_getElem (by omega)⟩
      have f1 : wr.frozen? ⟨w.heap.size, k, none⟩ = false := by simp [World.frozen?, hcur]
      have i0 : (0 : Int) ≤ (k : Int) := by omega
      have i1 : (k : Int) < (ks.length : Int) + 2 := by omega
      have HTK : Hid (cur.toList.take k = ((ks ++ List.replicate (k - ks.length) 77).map (Value.int .i64))) := htk
      have HCUR : Hid (wr.heap[w.heap.size]? = some (.cells cur 3 (0, 0))) := hcur
      clear htk hcur
      go_wp2
      go_roundw
      case rel =>
        refine ⟨k + 1, by omega, by omega, by go_num, hB.setCell (Nat.le_refl _) _, by simpa [World.setCell] using hzr, _, heap_setCell_same _ _ _ _ _ _ HCUR.out, by simpa using hsz, ?_⟩
        rw [Array.toList_setIfInBounds, take_set1 _ _ _ (by rw [Array.length_toList]; omega), HTK.out, show k + 1 - ks.length = (k - ks.length) + 1 by omega, List.replicate_succ']
        simp
      case measure => simp [intOf]; omega
    · have hnk : ¬ (k : Int) < (ks.length : Int) + 2 := by omega
      have hke : k = ks.length + 2 := by omega
      have HF : Hid (wr.heap[w.heap.size]? = some (.cells (lentI ks).toArray 3 (0, 0))) := by
        unfold Hid lentI
        rw [hcur]
        rw [hke, List.take_of_length_le (by rw [Array.length_toList]; omega), show ks.length + 2 - ks.length = 2 by omega] at htk
        have : cur = ((ks ++ [77, 77]).map (Value.int .i64)).toArray := by
          rw [show ([77, 77] : List Int) = List.replicate 2 77 from rfl, ← htk]
        rw [this]
      clear htk hcur
      go_wp2
      go_ret
      exact ⟨rfl, HF.out, hB, hzr⟩

theorem make_vals2 (n : Nat) (hn : n ≤ 9000000) : ∃ M : Array Value, M.size = 2 * (n + 2) ∧ ∀ W : World, (Instr.makeSlice 25 (.int .i64 ((n : Int) + 2)) (.int .i64 ((n : Int) + 2))).run Tryd.prog W = .ok (.slice (some ⟨W.heap.size, 0, none⟩) (n + 2) (n + 2)) (W.alloc (.cells M 30)) := by
  obtain ⟨i, hi, hz, h2, h24⟩ := info_parts info_value
  refine ⟨madeCells (Value.agg #[.int .i64 0, .string ⟨#[]⟩]).cells ((((n : Nat) : Int) + 2).toNat * i.size), ?_, fun W => ?_⟩
  · rw [size_madeCells, h2]; omega
  · have h := run_make (P := Tryd.prog) W 25 30 i _ Tryd.underlying25 hi hz .i64 .i64 ((n : Int) + 2) ((n : Int) + 2) (by omega) (by omega) (by rw [h24]; omega) (by omega)
    have e : ((n : Int) + 2).toNat = n + 2 := by omega
    rw [e] at h ⊢
    exact h

theorem RowAt.src {w : World} {sa : Option Addr} {r : List (Int × ByteArray)} (h : RowAt w sa r) : r.length = 0 ∨ ∃ a, sa = some a ∧ a.block < w.heap.size ∧ ∀ j v, (vcells r)[j]? = some v → w.cell? (a.add j) = some v := by
  rcases h with h | ⟨g, rfl, h⟩
  · left; rw [h]; rfl
  · by_cases h0 : r.length = 0
    · exact .inl h0
    · exact .inr ⟨_, rfl, h.lt (by omega), h.news⟩

theorem RowA.src {w : World} {sa : Option Addr} {r : List (Int × ByteArray)} (h : RowA w sa r) : r.length = 0 ∨ ∃ a, sa = some a ∧ a.block < w.heap.size ∧ ∀ j v, (vcells r)[j]? = some v → w.cell? (a.add j) = some v := by
  rcases h with h | ⟨g, zo, rfl, h⟩
  · left; rw [h]; rfl
  · by_cases h0 : r.length = 0
    · exact .inl h0
    · exact .inr ⟨_, rfl, h.lt (by omega), h.news⟩

def pads (n : Nat) : List (Int × ByteArray) := List.replicate n (77, ⟨#[]⟩)

/-- A list of values that is lent. -/
def lentV (r : List (Int × ByteArray)) : List (Int × ByteArray) := r ++ pads 2

theorem pads_succ (n : Nat) : pads (n + 1) = pads n ++ [(77, ⟨#[]⟩)] := by unfold pads; rw [List.replicate_succ']

set_option maxRecDepth 100000 in
set_option maxHeartbeats 1000000 in
theorem values_any (sa : Option Addr) (cap : Nat) (r : List (Int × ByteArray)) (w : World) (hr : RowA w sa r) (hl : r.length ≤ 9000000) :
    Calls Tryd.prog 38 #[.slice sa r.length cap] w fun e w' => e = .returned (.slice (some ⟨w.heap.size, 0, none⟩) (r.length + 2) (r.length + 2)) ∧ w'.heap[w.heap.size]? = some (.cells (vcells (lentV r)).toArray 30 (0, 0)) ∧ Below w.heap.size w w' := by
  obtain ⟨M, hMs, hmk⟩ := make_vals2 r.length hl
  have hsrc : r.length = 0 ∨ ∃ a, sa = some a ∧ ∀ j v, (vcells r)[j]? = some v → (w.alloc (.cells M 30)).cell? (a.add j) = some v := by
    rcases hr.src with h | ⟨a, h1, h2, h3⟩
    · exact .inl h
    · refine .inr ⟨a, h1, fun j v hv => ?_⟩
      have hb : (a.add j).block = a.block := by unfold Addr.add; split <;> rfl
      rw [← h3 j v hv]
      exact World.cell?_of_block (w := w) (a := a.add j) (by rw [hb]; exact Below.heap_alloc _ _ _ h2)
  obtain ⟨W1, hcp, hW1, hWB, hWz, _⟩ := run_copy_sized (P := Tryd.prog) (w.alloc (.cells M 30)) 25 25 30 w.heap.size (r.length + 2) (r.length + 2) sa r.length cap M 30 (vcells r) 2 Tryd.underlying25 (by kernel_rfl) (heap_alloc_new w _) (by omega) (by rw [vcells_length]; omega) hsrc (by rw [vcells_length]; omega) (vcells_one r)
  have HB1 : Hid (Below w.heap.size w W1) := hWB _ _ ((Below.refl _ _).alloc (Nat.le_refl _) _) (Nat.le_refl _)
  have HW1 : Hid (W1.heap[w.heap.size]? = some (.cells (vcells r ++ M.toList.drop (vcells r).length).toArray 30 (0, 0))) := hW1
  have hWz' : w.heap.size < W1.heap.size := by rw [hWz]; simp
  clear hWB hW1 hr hsrc hWz
  unfold goInt at hcp
  go_enter Tryd.func38, Tryd.ntmps38
  go_wp2_with fail
  go_loopw [4] (fun i wr => ∃ k : Nat, r.length ≤ k ∧ k ≤ r.length + 2 ∧ i = .int .i64 k ∧ Below w.heap.size w wr ∧ ∃ cur : Array Value, wr.heap[w.heap.size]? = some (.cells cur 30 (0, 0)) ∧ cur.size = 2 * (r.length + 2) ∧ cur.toList.take (2 * k) = vcells (r ++ pads (k - r.length))) (fun i _ => r.length + 2 - (intOf i).toNat)
  case atStart => exact ⟨r.length, Nat.le_refl _, by omega, rfl, HB1.out, _, HW1.out, by have := vcells_length r; simp; omega, by rw [Nat.sub_self, ← vcells_length]; simp [pads]⟩
  case round =>
    obtain ⟨k, hk1, hk2, rfl, hB, cur, hcur, hsz, htk⟩ := hrel
    by_cases hlt : k < r.length + 2
    · obtain ⟨x1, e1⟩ : ∃ x, wr.cell? ⟨w.heap.size, k * 2, none⟩ = some x := by
        rw [cell_of_row _ _ _ _ _ _ hcur]; exact ⟨_, Array.getElem?_eq_getElem (by omega)⟩
      obtain ⟨x2, e2⟩ : ∃ x, wr.cell? ⟨w.heap.size, k * 2 + 1, none⟩ = some x := by
        rw [cell_of_row _ _ _ _ _ _ hcur]; exact ⟨_, Array.getElem?_eq_getElem (by omega)⟩
      have f1 : wr.frozen? ⟨w.heap.size, k * 2, none⟩ = false := by simp [World.frozen?, hcur]
      have f2 : wr.frozen? ⟨w.heap.size, k * 2 + 1, none⟩ = false := by simp [World.frozen?, hcur]
      have i0 : (0 : Int) ≤ (k : Int) := by omega
      have i1 : (k : Int) < (r.length : Int) + 2 := by omega
      have HTK : Hid (cur.toList.take (2 * k) = vcells (r ++ pads (k - r.length))) := htk
      have HCUR : Hid (wr.heap[w.heap.size]? = some (.cells cur 30 (0, 0))) := hcur
      clear htk hcur
      go_wp2
      go_roundw
      case rel =>
        refine ⟨k + 1, by omega, by omega, by go_num, (hB.setCell (Nat.le_refl _) _).setCell (Nat.le_refl _) _, _, heap_setCell_same _ _ _ _ _ _ (heap_setCell_same _ _ _ _ _ _ HCUR.out), by simpa using hsz, ?_⟩
        rw [Array.toList_setIfInBounds, Array.toList_setIfInBounds, take_set2 _ _ _ _ (by rw [Array.length_toList]; omega), HTK.out, show k + 1 - r.length = (k - r.length) + 1 by omega, pads_succ, ← List.append_assoc, vcells_append (r ++ pads (k - r.length))]
        rfl
      case measure => simp [intOf]; omega
    · have hnk : ¬ (k : Int) < (r.length : Int) + 2 := by omega
      have hke : k = r.length + 2 := by omega
      have HF : Hid (wr.heap[w.heap.size]? = some (.cells (vcells (lentV r)).toArray 30 (0, 0))) := by
        unfold Hid lentV
        rw [hcur]
        rw [hke, List.take_of_length_le (by rw [Array.length_toList]; omega), show r.length + 2 - r.length = 2 by omega] at htk
        rw [← htk]
      clear htk hcur
      go_wp2
      go_ret
      exact ⟨rfl, HF.out, hB⟩

end Go.Proofs.YtcconhgbefhdeaaDoor

namespace Go.Proofs.YtcconhgbefhdeaaDoor
open Go.RowKit
attribute [local go_sem ↓] Go.wp_at_zero Go.wp_at_succ

set_option maxHeartbeats 400000 in
theorem lawPick_any (c : Int) (n : Nat) (w : World) (hn : 0 < n) (hn2 : n ≤ 9000000) (c1 : -9223372036854775808 ≤ c) (c2 : c ≤ 9223372036854775807) :
    Calls Tryd.prog 21 #[.int .i64 c, .int .i64 n] w fun e w' => ∃ k : Nat, e = .returned (.int .i64 k) ∧ k < n ∧ w' = w := by
  have hz : ((n : Int) == 0) = false := by rw [beq_eq_false_iff_ne]; omega
  have key : ∀ x : Int, 0 ≤ x → ∃ k : Nat, x.tmod n = (k : Int) ∧ k < n := fun x hx => by
    have h1 := Int.tmod_nonneg (n : Int) hx
    have h2 := Int.tmod_lt_of_pos x (show (0 : Int) < (n : Int) by omega)
    exact ⟨(x.tmod n).toNat, by omega, by omega⟩
  have KEY : Hid (∀ x : Int, 0 ≤ x → ∃ k : Nat, x.tmod n = (k : Int) ∧ k < n) := key
  clear key
  by_cases h : c < 0
  · obtain ⟨k, hk, hkn⟩ := KEY.out (-(c + 1)) (by omega)
    have HK : Hid (Int.tmod (-(c + 1)) n = (k : Int)) := hk
    clear hk
    go_enter Tryd.func21, Tryd.ntmps21
    go_wp2
    go_ret
    exact ⟨k, ret_int (by rw [← Int.neg_tmod]; exact HK.out), hkn, rfl⟩
  · obtain ⟨k, hk, hkn⟩ := KEY.out c (by omega)
    have HK : Hid (Int.tmod c n = (k : Int)) := hk
    clear hk
    go_enter Tryd.func21, Tryd.ntmps21
    go_wp2
    go_ret
    exact ⟨k, ret_int (by rw [← HK.out, Int.tmod_eq_emod_of_nonneg (by omega)]), hkn, rfl⟩

/-- Tests as cells. -/
def tcells : List Tst → List Value
  | [] => []
  | t :: T => .int .i64 t.dO :: .int .i64 t.col :: .int .i64 t.n :: .string t.s :: tcells T

theorem tcells_length (T : List Tst) : (tcells T).length = 4 * T.length := by
  induction T with
  | nil => rfl
  | cons t T ih => simp [tcells, ih]; omega

theorem tcells_append (A B : List Tst) : tcells (A ++ B) = tcells A ++ tcells B := by
  induction A with
  | nil => rfl
  | cons t A ih => simp [tcells, ih]

theorem tcells_at (T : List Tst) (i : Nat) (h : i < T.length) : (tcells T)[4 * i]? = some (.int .i64 T[i].dO) ∧ (tcells T)[4 * i + 1]? = some (.int .i64 T[i].col) ∧ (tcells T)[4 * i + 2]? = some (.int .i64 T[i].n) ∧ (tcells T)[4 * i + 3]? = some (.string T[i].s) := by
  induction T generalizing i with
  | nil => simp at h
  | cons t T ih =>
    cases i with
    | zero => simp [tcells]
    | succ i =>
      have := ih i (by simpa using h)
      rw [show 4 * (i + 1) = 4 * i + 4 by omega]
      simpa [tcells] using this

theorem tcells_one (T : List Tst) : ∀ u ∈ tcells T, u.oneCell' = true := by
  induction T with
  | nil => simp [tcells]
  | cons t T ih =>
    intro u hu
    simp only [tcells, List.mem_cons] at hu
    rcases hu with rfl | rfl | rfl | rfl | hu
    · rfl
    · rfl
    · rfl
    · rfl
    · exact ih u hu

theorem TestsIn.news {w : World} {g : Nat} {T : List Tst} (h : TestsIn w g T) : ∀ j u, (tcells T)[j]? = some u → w.cell? ((⟨g, 0, none⟩ : Addr).add j) = some u := fun j u hu => by
  have hadd : (⟨g, 0, none⟩ : Addr).add j = ⟨g, j, none⟩ := by unfold Addr.add; split <;> simp_all
  rw [hadd]
  have hj : j < 4 * T.length := by
    have := (List.getElem?_eq_some_iff.1 hu).1
    rwa [tcells_length] at this
  obtain ⟨a1, a2, a3, a4⟩ := tcells_at T (j / 4) (by omega)
  obtain ⟨b1, b2, b3, b4⟩ := h (j / 4) (by omega)
  have hm : j % 4 = 0 ∨ j % 4 = 1 ∨ j % 4 = 2 ∨ j % 4 = 3 := by omega
  rcases hm with hm | hm | hm | hm
  · rw [show 4 * (j / 4) = j by omega, hu] at a1
    rw [show j / 4 * 4 = j by omega] at b1
    rw [a1, ← b1]
  · rw [show 4 * (j / 4) + 1 = j by omega, hu] at a2
    rw [show j / 4 * 4 + 1 = j by omega] at b2
    rw [a2, ← b2]
  · rw [show 4 * (j / 4) + 2 = j by omega, hu] at a3
    rw [show j / 4 * 4 + 2 = j by omega] at b3
    rw [a3, ← b3]
  · rw [show 4 * (j / 4) + 3 = j by omega, hu] at a4
    rw [show j / 4 * 4 + 3 = j by omega] at b4
    rw [a4, ← b4]

theorem TestsO.news {w : World} {g zo : Nat} {T : List Tst} (h : TestsO w g zo T) : ∀ j u, (tcells T)[j]? = some u → w.cell? ((⟨g, zo, none⟩ : Addr).add j) = some u := fun j u hu => by
  rw [addr_plus]
  have hj : j < 4 * T.length := by
    have := (List.getElem?_eq_some_iff.1 hu).1
    rwa [tcells_length] at this
  obtain ⟨a1, a2, a3, a4⟩ := tcells_at T (j / 4) (by omega)
  obtain ⟨b1, b2, b3, b4⟩ := h (j / 4) (by omega)
  have hm : j % 4 = 0 ∨ j % 4 = 1 ∨ j % 4 = 2 ∨ j % 4 = 3 := by omega
  rcases hm with hm | hm | hm | hm
  · rw [show 4 * (j / 4) = j by omega, hu] at a1
    rw [show zo + j / 4 * 4 = zo + j by omega] at b1
    rw [a1, ← b1]
  · rw [show 4 * (j / 4) + 1 = j by omega, hu] at a2
    rw [show zo + j / 4 * 4 + 1 = zo + j by omega] at b2
    rw [a2, ← b2]
  · rw [show 4 * (j / 4) + 2 = j by omega, hu] at a3
    rw [show zo + j / 4 * 4 + 2 = zo + j by omega] at b3
    rw [a3, ← b3]
  · rw [show 4 * (j / 4) + 3 = j by omega, hu] at a4
    rw [show zo + j / 4 * 4 + 3 = zo + j by omega] at b4
    rw [a4, ← b4]

theorem TestsIn.of_cells {w : World} {g : Nat} {T : List Tst} {cs : List Value} {t : TypeId} {fr : Nat × Nat} (hg : w.heap[g]? = some (.cells cs.toArray t fr)) (h : cs.take (4 * T.length) = tcells T) : TestsIn w g T := fun i hi => by
  obtain ⟨a1, a2, a3, a4⟩ := tcells_at T i hi
  have key : ∀ j v, (tcells T)[j]? = some v → w.cell? ⟨g, j, none⟩ = some v := fun j v hv => by
    rw [cell_of_row _ _ _ _ _ _ hg]
    have hj : j < 4 * T.length := by
      have := (List.getElem?_eq_some_iff.1 hv).1
      rwa [tcells_length] at this
    rw [← h, List.getElem?_take_of_lt hj] at hv
    simpa using hv
  rw [Nat.mul_comm 4 i] at a1 a2 a3 a4
  exact ⟨key _ _ a1, key _ _ a2, key _ _ a3, key _ _ a4⟩

theorem TestsAt.src {w : World} {sa : Option Addr} {T : List Tst} (h : TestsAt w sa T) : T.length = 0 ∨ ∃ a, sa = some a ∧ a.block < w.heap.size ∧ ∀ j v, (tcells T)[j]? = some v → w.cell? (a.add j) = some v := by
  rcases h with h | ⟨g, rfl, h⟩
  · left; rw [h]; rfl
  · by_cases h0 : T.length = 0
    · exact .inl h0
    · exact .inr ⟨_, rfl, h.lt (by omega), h.news⟩

theorem TestsA.src {w : World} {sa : Option Addr} {T : List Tst} (h : TestsA w sa T) : T.length = 0 ∨ ∃ a, sa = some a ∧ a.block < w.heap.size ∧ ∀ j v, (tcells T)[j]? = some v → w.cell? (a.add j) = some v := by
  rcases h with h | ⟨g, zo, rfl, h⟩
  · left; rw [h]; rfl
  · by_cases h0 : T.length = 0
    · exact .inl h0
    · exact .inr ⟨_, rfl, h.lt (by omega), h.news⟩

theorem take_set4 (l : List Value) (k : Nat) (a b c d : Value) (h : k * 4 + 3 < l.length) : ((((l.set (k * 4) a).set (k * 4 + 1) b).set (k * 4 + 2) c).set (k * 4 + 3) d).take (4 * (k + 1)) = l.take (4 * k) ++ [a, b, c, d] := by
  have e := take_set1 (((l.set (k * 4) a).set (k * 4 + 1) b).set (k * 4 + 2) c) (k * 4 + 3) d (by simpa using h)
  have e2 := take_set1 ((l.set (k * 4) a).set (k * 4 + 1) b) (k * 4 + 2) c (by simp; omega)
  have e3 := take_set1 (l.set (k * 4) a) (k * 4 + 1) b (by simp; omega)
  have e4 := take_set1 l (k * 4) a (by omega)
  rw [show 4 * (k + 1) = k * 4 + 3 + 1 by omega, e, show k * 4 + 3 = k * 4 + 2 + 1 by omega, e2, show k * 4 + 2 = k * 4 + 1 + 1 by omega, e3, e4, show 4 * k = k * 4 by omega]
  simp

theorem info_test : (Tryd.prog.info? 32).map (fun i => (i.zero, i.size, i.bytes)) = some (some (.agg #[.int .i64 0, .int .i64 0, .int .i64 0, .string ⟨#[]⟩]), 4, 40) := by kernel_rfl

theorem make_tests2 (n : Nat) (hn : n ≤ 9000000) : ∃ M : Array Value, M.size = 4 * (n + 2) ∧ ∀ W : World, (Instr.makeSlice 26 (.int .i64 ((n : Int) + 2)) (.int .i64 ((n : Int) + 2))).run Tryd.prog W = .ok (.slice (some ⟨W.heap.size, 0, none⟩) (n + 2) (n + 2)) (W.alloc (.cells M 32)) := by
  obtain ⟨i, hi, hz, h2, h24⟩ := info_parts info_test
  refine ⟨madeCells (Value.agg #[.int .i64 0, .int .i64 0, .int .i64 0, .string ⟨#[]⟩]).cells ((((n : Nat) : Int) + 2).toNat * i.size), ?_, fun W => ?_⟩
  · rw [size_madeCells, h2]; omega
  · have h := run_make (P := Tryd.prog) W 26 32 i _ Tryd.underlying26 hi hz .i64 .i64 ((n : Int) + 2) ((n : Int) + 2) (by omega) (by omega) (by rw [h24]; omega) (by omega)
    have e : ((n : Int) + 2).toNat = n + 2 := by omega
    rw [e] at h ⊢
    exact h

def padT (n : Nat) : List Tst := List.replicate n ⟨77, 0, 0, ⟨#[]⟩⟩

/-- A list of tests that is lent. -/
def lentT (T : List Tst) : List Tst := T ++ padT 2

theorem padT_succ (n : Nat) : padT (n + 1) = padT n ++ [⟨77, 0, 0, ⟨#[]⟩⟩] := by unfold padT; rw [List.replicate_succ']

set_option maxRecDepth 100000 in
set_option maxHeartbeats 1000000 in
theorem tests_any (sa : Option Addr) (cap : Nat) (T : List Tst) (w : World) (hT : TestsA w sa T) (hl : T.length ≤ 9000000) :
    Calls Tryd.prog 56 #[.slice sa T.length cap] w fun e w' => e = .returned (.slice (some ⟨w.heap.size, 0, none⟩) (T.length + 2) (T.length + 2)) ∧ w'.heap[w.heap.size]? = some (.cells (tcells (lentT T)).toArray 32 (0, 0)) ∧ Below w.heap.size w w' := by
  obtain ⟨M, hMs, hmk⟩ := make_tests2 T.length hl
  have hsrc : T.length = 0 ∨ ∃ a, sa = some a ∧ ∀ j v, (tcells T)[j]? = some v → (w.alloc (.cells M 32)).cell? (a.add j) = some v := by
    rcases hT.src with h | ⟨a, h1, h2, h3⟩
    · exact .inl h
    · refine .inr ⟨a, h1, fun j v hv => ?_⟩
      have hb : (a.add j).block = a.block := by unfold Addr.add; split <;> rfl
      rw [← h3 j v hv]
      exact World.cell?_of_block (w := w) (a := a.add j) (by rw [hb]; exact Below.heap_alloc _ _ _ h2)
  obtain ⟨W1, hcp, hW1, hWB, hWz, _⟩ := run_copy_sized (P := Tryd.prog) (w.alloc (.cells M 32)) 26 26 32 w.heap.size (T.length + 2) (T.length + 2) sa T.length cap M 32 (tcells T) 4 Tryd.underlying26 (by kernel_rfl) (heap_alloc_new w _) (by omega) (by rw [tcells_length]; omega) hsrc (by rw [tcells_length]; omega) (tcells_one T)
  have HB1 : Hid (Below w.heap.size w W1) := hWB _ _ ((Below.refl _ _).alloc (Nat.le_refl _) _) (Nat.le_refl _)
  have HW1 : Hid (W1.heap[w.heap.size]? = some (.cells (tcells T ++ M.toList.drop (tcells T).length).toArray 32 (0, 0))) := hW1
  have hWz' : w.heap.size < W1.heap.size := by rw [hWz]; simp
  clear hWB hW1 hT hsrc hWz
  unfold goInt at hcp
  go_enter Tryd.func56, Tryd.ntmps56
  go_wp2_with fail
  go_loopw [4] (fun i wr => ∃ k : Nat, T.length ≤ k ∧ k ≤ T.length + 2 ∧ i = .int .i64 k ∧ Below w.heap.size w wr ∧ ∃ cur : Array Value, wr.heap[w.heap.size]? = some (.cells cur 32 (0, 0)) ∧ cur.size = 4 * (T.length + 2) ∧ cur.toList.take (4 * k) = tcells (T ++ padT (k - T.length))) (fun i _ => T.length + 2 - (intOf i).toNat)
  case atStart => exact ⟨T.length, Nat.le_refl _, by omega, rfl, HB1.out, _, HW1.out, by have := tcells_length T; simp; omega, by rw [Nat.sub_self, ← tcells_length]; simp [padT]⟩
  case round =>
    obtain ⟨k, hk1, hk2, rfl, hB, cur, hcur, hsz, htk⟩ := hrel
    by_cases hlt : k < T.length + 2
    · have hx : ∀ j, j < 4 → ∃ x, wr.cell? ⟨w.heap.size, k * 4 + j, none⟩ = some x := fun j hj => by
        rw [cell_of_row _ _ _ _ _ _ hcur]; exact ⟨_, Array.getElem?_eq_getElem (by omega)⟩
      have hf : ∀ o, wr.frozen? ⟨w.heap.size, o, none⟩ = false := fun o => by simp [World.frozen?, hcur]
      obtain ⟨x0, e0⟩ := hx 0 (by omega)
      obtain ⟨x1, e1⟩ := hx 1 (by omega)
      obtain ⟨x2, e2⟩ := hx 2 (by omega)
      obtain ⟨x3, e3⟩ := hx 3 (by omega)
      rw [Nat.add_zero] at e0
      have f0 := hf (k * 4)
      have f1 := hf (k * 4 + 1)
      have f2 := hf (k * 4 + 2)
      have f3 := hf (k * 4 + 3)
      have i0 : (0 : Int) ≤ (k : Int) := by omega
      have i1 : (k : Int) < (T.length : Int) + 2 := by omega
      have HTK : Hid (cur.toList.take (4 * k) = tcells (T ++ padT (k - T.length))) := htk
      have HCUR : Hid (wr.heap[w.heap.size]? = some (.cells cur 32 (0, 0))) := hcur
      clear htk hcur hx hf
      go_wp2
      go_roundw
      case rel =>
        refine ⟨k + 1, by omega, by omega, by go_num, (((hB.setCell (Nat.le_refl _) _).setCell (Nat.le_refl _) _).setCell (Nat.le_refl _) _).setCell (Nat.le_refl _) _, _, heap_setCell_same _ _ _ _ _ _ (heap_setCell_same _ _ _ _ _ _ (heap_setCell_same _ _ _ _ _ _ (heap_setCell_same _ _ _ _ _ _ HCUR.out))), by simpa using hsz, ?_⟩
        rw [Array.toList_setIfInBounds, Array.toList_setIfInBounds, Array.toList_setIfInBounds, Array.toList_setIfInBounds, take_set4 _ _ _ _ _ _ (by rw [Array.length_toList]; omega), HTK.out, show k + 1 - T.length = (k - T.length) + 1 by omega, padT_succ, ← List.append_assoc, tcells_append (T ++ padT (k - T.length))]
        rfl
      case measure => simp [intOf]; omega
    · have hnk : ¬ (k : Int) < (T.length : Int) + 2 := by omega
      have hke : k = T.length + 2 := by omega
      have HF : Hid (wr.heap[w.heap.size]? = some (.cells (tcells (lentT T)).toArray 32 (0, 0))) := by
        unfold Hid lentT
        rw [hcur]
        rw [hke, List.take_of_length_le (by rw [Array.length_toList]; omega), show T.length + 2 - T.length = 2 by omega] at htk
        rw [← htk]
      clear htk hcur
      go_wp2
      go_ret
      exact ⟨rfl, HF.out, hB⟩

end Go.Proofs.YtcconhgbefhdeaaDoor

namespace Go.Proofs.YtcconhgbefhdeaaDoor
open Go.RowKit

/-- Rows as they are read. -/
structure RowsIn (w : World) (a : Option Addr) (L : List (Nat × List (Int × ByteArray))) : Prop where
  at' : L = [] ∨ ∃ g, a = some ⟨g, 0, none⟩ ∧ ∀ k (hk : k < L.length), w.cell? ⟨g, k, none⟩ = some (rval L[k])
  blk : ∀ p ∈ L, RowBlk w p

theorem RowsAt.rowsIn {w : World} {base : Nat} {v : Value} {L : List (Nat × List (Int × ByteArray))} (h : RowsAt w base v L) : ∃ a c, v = .slice a L.length c ∧ RowsIn w a L := by
  by_cases hl : 0 < L.length
  · obtain ⟨fg, cp, hv, _, _, hc⟩ := rows_cell h hl
    exact ⟨_, cp, hv, .inr ⟨fg, rfl, hc⟩, fun p hp => (h.blk p hp).2⟩
  · have h0 : L = [] := List.eq_nil_of_length_eq_zero (by omega)
    rcases h.own.2 with ⟨h1, h2⟩ | ⟨gg, cp, _, h1, _⟩
    · exact ⟨none, 0, by rw [h1, h2], .inl h0, fun p hp => (h.blk p hp).2⟩
    · exact ⟨_, cp, h1, .inl h0, fun p hp => (h.blk p hp).2⟩

set_option maxHeartbeats 1000000 in
theorem same_eq (a b : Option Addr) (ca cb : Nat) (A B : List (Nat × List (Int × ByteArray))) (w : World) (hA : RowsIn w a A) (hB : RowsIn w b B) (he : A.map Prod.snd = B.map Prod.snd) (hl : A.length ≤ 100000) (hr : ∀ p ∈ A, p.2.length ≤ 100000) :
    Calls Tryd.prog 14 #[.slice a A.length ca, .slice b B.length cb] w fun e w' => e = .returned (.bool true) ∧ ∃ n, w' = w.drewN n := by
  have hlen : A.length = B.length := by have := congrArg List.length he; simpa using this
  have hne : ((A.length : Int) != (A.length : Int)) = false := by simp
  rw [← hlen]
  have HA : Hid (RowsIn w a A) := hA
  have HBB : Hid (RowsIn w b B) := hB
  have HEE : Hid (A.map Prod.snd = B.map Prod.snd) := he
  have HLN : Hid (A.length = B.length) := hlen
  have HRR : Hid (∀ p ∈ A, p.2.length ≤ 100000) := hr
  clear hA hB he hlen hr
  go_enter Tryd.func14, Tryd.ntmps14
  go_wp2_with fail
  go_loopw [5] (fun i wr => ∃ k : Nat, k ≤ A.length ∧ i = .int .i64 k ∧ ∃ q, wr = w.drewN q) (fun i _ => A.length - (intOf i).toNat)
  case atStart => exact ⟨0, Nat.zero_le _, rfl, 0, rfl⟩
  case round =>
    obtain ⟨k, hk, rfl, q, rfl⟩ := hrel
    by_cases hlt : k < A.length
    · rcases HA.out.at' with h0 | ⟨ga, rfl, hca⟩
      · rw [h0] at hlt; simp at hlt
      have hltB : k < B.length := by have := HLN.out; omega
      rcases HBB.out.at' with h0 | ⟨gb, rfl, hcb⟩
      · rw [h0] at hltB; simp at hltB
      have d1 : w.cell? ⟨ga, k, none⟩ = some (.slice (some ⟨A[k].1, 0, none⟩) A[k].2.length A[k].2.length) := hca k hlt
      have d2 : w.cell? ⟨gb, k, none⟩ = some (.slice (some ⟨B[k].1, 0, none⟩) B[k].2.length B[k].2.length) := hcb k hltB
      have e2 : B[k].2 = A[k].2 := by
        have h1 : (A.map Prod.snd)[k]? = (B.map Prod.snd)[k]? := by rw [HEE.out]
        simp [hlt, hltB] at h1
        exact h1.symm
      have r1 : RowIn w A[k].1 A[k].2 := (HA.out.blk A[k] (List.getElem_mem hlt)).rowIn
      have r2 : RowIn w B[k].1 B[k].2 := (HBB.out.blk B[k] (List.getElem_mem hltB)).rowIn
      rw [e2] at d2 r2
      have hrl : A[k].2.length ≤ 100000 := HRR.out A[k] (List.getElem_mem hlt)
      clear hca hcb e2
      generalize A[k].2 = rr at *
      generalize A[k].1 = g1 at *
      generalize B[k].1 = g2 at *
      have R1 : Hid (RowIn w g1 rr) := r1
      have R2 : Hid (RowIn w g2 rr) := r2
      clear r1 r2
      have hne2 : ((rr.length : Int) != (rr.length : Int)) = false := by simp
      have hk0 : (0 : Int) ≤ (k : Int) := by omega
      have hk1 : (k : Int) < (A.length : Int) := by omega
      go_wp2_with fail
      go_quiet (fail)
      go_wp2_with fail
      go_loopw [6] (fun j wr => ∃ m : Nat, m ≤ rr.length ∧ j = .int .i64 m ∧ ∃ q', wr = w.drewN q') (fun j _ => rr.length - (intOf j).toNat)
      case atStart => exact ⟨0, Nat.zero_le _, rfl, _, World.drewN_drewN _ _ _⟩
      case round =>
        obtain ⟨m, hm, rfl, q', rfl⟩ := hrel
        by_cases hlm : m < rr.length
        · obtain ⟨x1, x2⟩ := R1.out m hlm
          obtain ⟨y1, y2⟩ := R2.out m hlm
          have hm0 : (0 : Int) ≤ (m : Int) := by omega
          have hm1 : (m : Int) < (rr.length : Int) := by omega
          generalize rr[m].1 = vn at *
          generalize rr[m].2 = vs at *
          go_wp2_with fail
          go_quiet (fail)
          go_wp2
          go_roundw
          case rel => exact ⟨m + 1, by omega, by go_num, _, rfl⟩
          case measure => simp [intOf]; omega
        · go_wp2
          go_roundw
          case rel => exact ⟨k + 1, by omega, by go_num, q', rfl⟩
          case measure => simp [intOf]; omega
    · go_wp2
      go_ret
      exact ⟨rfl, q, rfl⟩

theorem drewN_below (w : World) (n : Nat) : Below w.heap.size w (w.drewN n) := ⟨rfl, rfl, rfl, Nat.le_refl _, fun _ _ => rfl⟩

end Go.Proofs.YtcconhgbefhdeaaDoor

namespace Go.Proofs.YtcconhgbefhdeaaDoor
open Go.RowKit
attribute [local go_sem ↓] Go.wp_at_zero Go.wp_at_succ

set_option maxHeartbeats 1000000 in
theorem sameValues_eq (ga gb ca cb : Nat) (r : List (Int × ByteArray)) (w : World) (hA : RowIn w ga r) (hB : RowIn w gb r) (hl : r.length ≤ 9000002) :
    Calls Tryd.prog 40 #[.slice (some ⟨ga, 0, none⟩) r.length ca, .slice (some ⟨gb, 0, none⟩) r.length cb] w fun e w' => e = .returned (.bool true) ∧ ∃ n, w' = w.drewN n := by
  have hne : ((r.length : Int) != (r.length : Int)) = false := by simp
  have HA : Hid (RowIn w ga r) := hA
  have HB : Hid (RowIn w gb r) := hB
  clear hA hB
  go_enter Tryd.func40, Tryd.ntmps40
  go_wp2_with fail
  go_loopw [5] (fun i wr => ∃ k : Nat, k ≤ r.length ∧ i = .int .i64 k ∧ ∃ q, wr = w.drewN q) (fun i _ => r.length - (intOf i).toNat)
  case atStart => exact ⟨0, Nat.zero_le _, rfl, 0, rfl⟩
  case round =>
    obtain ⟨k, hk, rfl, q, rfl⟩ := hrel
    by_cases hlt : k < r.length
    · obtain ⟨c1, c2⟩ := HA.out k hlt
      obtain ⟨c3, c4⟩ := HB.out k hlt
      have i0 : (0 : Int) ≤ (k : Int) := by omega
      have i1 : (k : Int) < (r.length : Int) := by omega
      generalize r[k].1 = n at *
      generalize r[k].2 = s at *
      go_wp2_with fail
      go_quiet (fail)
      go_wp2
      go_roundw
      case rel => exact ⟨k + 1, by omega, by go_num, _, rfl⟩
      case measure => simp [intOf]; omega
    · have i1 : ¬ (k : Int) < (r.length : Int) := by omega
      go_wp2
      go_ret
      exact ⟨rfl, _, rfl⟩

theorem Fr.drewN {S : List Nat} {a w : World} (h : Fr S a w) (n : Nat) : Fr S a (w.drewN n) := ⟨h.os, h.tape, h.output, h.size, h.block⟩

set_option maxRecDepth 100000 in
set_option maxHeartbeats 1000000 in
theorem sameTests_eq (ga gb ca cb : Nat) (T : List Tst) (w : World) (hA : w.heap[ga]? = some (.cells (tcells T).toArray 32 (0, 0))) (hB : TestsIn w gb T) (hne : gb ≠ ga) (h0 : 0 < T.length) (hl : T.length ≤ 9000002) :
    Calls Tryd.prog 58 #[.slice (some ⟨ga, 0, none⟩) T.length ca, .slice (some ⟨gb, 0, none⟩) T.length cb] w fun e w' => e = .returned (.bool true) ∧ Fr [ga] w w' := by
  have hgb : gb < w.heap.size := hB.lt h0
  have hga : ga < w.heap.size := (Array.getElem?_eq_some_iff.1 hA).1
  have HA : Hid (w.heap[ga]? = some (.cells (tcells T).toArray 32 (0, 0))) := hA
  have HB : Hid (TestsIn w gb T) := hB
  clear hA hB
  go_enter Tryd.func58, Tryd.ntmps58
  go_wp2_with fail
  go_loopw [5, 6] (fun o i wr => ∃ k : Nat, k ≤ T.length ∧ o = .bool true ∧ i = .int .i64 k ∧ Fr [ga] w wr ∧ ∃ cur : Array Value, wr.heap[ga]? = some (.cells cur 32 (0, 0)) ∧ cur.size = 4 * T.length ∧ ∀ x, 4 * k ≤ x → cur[x]? = (tcells T)[x]?) (fun _ i _ => T.length - (intOf i).toNat)
  case atStart => exact ⟨0, Nat.zero_le _, by simp, rfl, Fr.refl _ _, _, HA.out, by simp [tcells_length], fun x _ => by simp⟩
  case round =>
    obtain ⟨k, hk, rfl, rfl, hF, cur, hcur, hsz, hc⟩ := hrel
    by_cases hlt : k < T.length
    · obtain ⟨a1, a2, a3, a4⟩ := tcells_at T k hlt
      obtain ⟨b1, b2, b3, b4⟩ := HB.out k hlt
      have e : ∀ o, wr.cell? ⟨gb, o, none⟩ = w.cell? ⟨gb, o, none⟩ := fun o => hF.cell gb o hgb (by simpa using hne)
      rw [← e] at b1 b2 b3 b4
      have x0 : wr.cell? ⟨ga, k * 4, none⟩ = some (.int .i64 T[k].dO) := by rw [cell_of_row _ _ _ _ _ _ hcur, hc _ (by omega), show k * 4 = 4 * k by omega]; exact a1
      have x1 : wr.cell? ⟨ga, k * 4 + 1, none⟩ = some (.int .i64 T[k].col) := by rw [cell_of_row _ _ _ _ _ _ hcur, hc _ (by omega), show k * 4 = 4 * k by omega]; exact a2
      have x2 : wr.cell? ⟨ga, k * 4 + 2, none⟩ = some (.int .i64 T[k].n) := by rw [cell_of_row _ _ _ _ _ _ hcur, hc _ (by omega), show k * 4 = 4 * k by omega]; exact a3
      have x3 : wr.cell? ⟨ga, k * 4 + 3, none⟩ = some (.string T[k].s) := by rw [cell_of_row _ _ _ _ _ _ hcur, hc _ (by omega), show k * 4 = 4 * k by omega]; exact a4
      have f0 : wr.frozen? ⟨ga, k * 4, none⟩ = false := by simp [World.frozen?, hcur]
      have f1 : wr.frozen? ⟨ga, k * 4 + 1, none⟩ = false := by simp [World.frozen?, hcur]
      have f2 : wr.frozen? ⟨ga, k * 4 + 2, none⟩ = false := by simp [World.frozen?, hcur]
      have f3 : wr.frozen? ⟨ga, k * 4 + 3, none⟩ = false := by simp [World.frozen?, hcur]
      have HCUR : Hid (wr.heap[ga]? = some (.cells cur 32 (0, 0))) := hcur
      have HC : Hid (∀ x, 4 * k ≤ x → cur[x]? = (tcells T)[x]?) := hc
      have i0 : (0 : Int) ≤ (k : Int) := by omega
      have i1 : (k : Int) < (T.length : Int) := by omega
      clear hcur hc e a1 a2 a3 a4
      generalize T[k] = t at *
      go_wp2_with fail
      go_quiet (fail)
      go_wp2
      go_roundw
      case rel =>
        refine ⟨k + 1, by omega, by simp, by go_num, ((((hF.drewN _).setCell (p := ⟨ga, _, none⟩) (.inl (by simp)) _).setCell (p := ⟨ga, _, none⟩) (.inl (by simp)) _).setCell (p := ⟨ga, _, none⟩) (.inl (by simp)) _).setCell (p := ⟨ga, _, none⟩) (.inl (by simp)) _, _, heap_setCell_same _ _ _ _ _ _ (heap_setCell_same _ _ _ _ _ _ (heap_setCell_same _ _ _ _ _ _ (heap_setCell_same _ _ _ _ _ _ HCUR.out))), by simpa using hsz, fun x hx => ?_⟩
        rw [Array.getElem?_setIfInBounds_ne (by omega), Array.getElem?_setIfInBounds_ne (by omega), Array.getElem?_setIfInBounds_ne (by omega), Array.getElem?_setIfInBounds_ne (by omega)]
        exact HC.out x (by omega)
      case measure => simp [intOf]; omega
    · have i1 : ¬ (k : Int) < (T.length : Int) := by omega
      clear hc hcur
      go_wp2
      go_ret
      exact ⟨by simp, hF⟩

end Go.Proofs.YtcconhgbefhdeaaDoor
