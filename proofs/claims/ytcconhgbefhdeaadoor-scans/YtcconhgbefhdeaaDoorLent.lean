import Derived.Test.YtcconhgbefhdeaaDoorRefApp
import Derived.Laws.CopyRow
namespace Go.Proofs.YtcconhgbefhdeaaDoor
open Go.RowKit
attribute [local go_sem ↓] Go.wp_at_zero Go.wp_at_succ

theorem run_copy_sized {P : Program} (w : World) (dT sT elem : TypeId) (g dLen dCap : Nat) (sa : Option Addr) (sLen sCap : Nat) (cur : Array Value) (t : TypeId) (cs : List Value) (size : Nat)
    (hu : P.underlying dT = some (.slice elem)) (hs : (P.info? elem).map (·.size) = some size)
    (hg : w.heap[g]? = some (.cells cur t (0, 0))) (hle : sLen ≤ dLen) (hn : cs.length = sLen * size)
    (hsrc : (sLen = 0) ∨ ∃ a, sa = some a ∧ ∀ j v, cs[j]? = some v → w.cell? (a.add j) = some v) (hfit : cs.length ≤ cur.size) (h1 : ∀ v ∈ cs, v.oneCell' = true) :
    ∃ w', (∀ ty, (Builtin.copy_ #[dT, sT] ty #[.slice (some ⟨g, 0, none⟩) dLen dCap, .slice sa sLen sCap]).run P w = .ok (goInt sLen) w') ∧ w'.heap[g]? = some (.cells (cs ++ cur.toList.drop cs.length).toArray t (0, 0)) ∧ (∀ B w0, Below B w0 w → B ≤ g → Below B w0 w') ∧ w'.heap.size = w.heap.size ∧ (∀ k, k ≠ g → w'.heap[k]? = w.heap[k]?) := by
  refine ⟨w.setRow g (cs ++ cur.toList.drop cs.length).toArray, fun ty => ?_, setRow_heap w g cur _ t _ hg, fun B w0 hb hB => hb.trans ⟨rfl, rfl, rfl, by simp, fun k hk => setRow_other w g k _ (by omega)⟩, by simp, fun k hk => setRow_other w g k _ hk⟩
  have hst := run_storeCells_at P g 0 t cs 0 cur w hg (by simpa using hfit) h1
  simp only [Nat.zero_add, List.take_zero, List.nil_append] at hst
  have hmin : Nat.min sLen dLen = sLen := Nat.min_eq_left hle
  cases hq : P.info? elem with
  | none => simp [hq] at hs
  | some i =>
    have hi : i.size = size := by simpa [hq] using hs
    rcases hsrc with h0 | ⟨a, rfl, hsrc⟩
    · subst h0
      have hcs : cs = [] := List.eq_nil_of_length_eq_zero (by omega)
      subst hcs
      have hl : ∀ (x : Addr), (loadCells x 0).run P w = .ok #[] w := fun x => by simpa using run_loadCells_list (P := P) w x [] (by simp)
      cases sa <;> simp [Builtin.copy_, run_underlying hu, Builtin.lenOf, Builtin.firstCells, sizeOf, typeInfo, hq, hmin, hl, hst]
    · have hl := run_loadCells_list (P := P) w a cs hsrc
      simp [Builtin.copy_, run_underlying hu, Builtin.lenOf, Builtin.firstCells, sizeOf, typeInfo, hq, hi, hmin, ← hn, hl, hst]

theorem info_int : (Tryd.prog.info? 3).map (fun i => (i.zero, i.size, i.bytes)) = some (some (.int .i64 0), 1, 8) := by kernel_rfl

theorem make_ints (n : Nat) (hn : n ≤ 9000000) : ∃ M : Array Value, M.size = n + 2 ∧ ∀ W : World, (Instr.makeSlice 24 (.int .i64 ((n : Int) + 2)) (.int .i64 ((n : Int) + 2))).run Tryd.prog W = .ok (.slice (some ⟨W.heap.size, 0, none⟩) (n + 2) (n + 2)) (W.alloc (.cells M 3)) := by
  obtain ⟨i, hi, hz, h2, h24⟩ := info_parts info_int
  refine ⟨madeCells (Value.int .i64 0).cells ((((n : Nat) : Int) + 2).toNat * i.size), ?_, fun W => ?_⟩
  · rw [size_madeCells, h2]; omega
  · have h := run_make (P := Tryd.prog) W 24 3 i _ Tryd.underlying24 hi hz .i64 .i64 ((n : Int) + 2) ((n : Int) + 2) (by omega) (by omega) (by rw [h24]; omega) (by omega)
    have e : ((n : Int) + 2).toNat = n + 2 := by omega
    rw [e] at h ⊢
    exact h

theorem KindsAt.src {w : World} {sa : Option Addr} {ks : List Int} (h : KindsAt w sa ks) : ks.length = 0 ∨ ∃ a, sa = some a ∧ a.block < w.heap.size ∧ ∀ j v, (ks.map (Value.int .i64))[j]? = some v → w.cell? (a.add j) = some v := by
  rcases h with h | ⟨g, rfl, h⟩
  · left; rw [h]; rfl
  · by_cases h0 : ks.length = 0
    · exact .inl h0
    · refine .inr ⟨_, rfl, h.lt (by omega), fun j v hv => ?_⟩
      have hadd : (⟨g, 0, none⟩ : Addr).add j = ⟨g, j, none⟩ := by unfold Addr.add; split <;> simp_all
      rw [hadd]
      simp only [List.getElem?_map, Option.map_eq_some_iff] at hv
      obtain ⟨x, hx, rfl⟩ := hv
      obtain ⟨hj, rfl⟩ := List.getElem?_eq_some_iff.1 hx
      exact h j hj

theorem KindsA.src {w : World} {sa : Option Addr} {ks : List Int} (h : KindsA w sa ks) : ks.length = 0 ∨ ∃ a, sa = some a ∧ a.block < w.heap.size ∧ ∀ j v, (ks.map (Value.int .i64))[j]? = some v → w.cell? (a.add j) = some v := by
  rcases h with h | ⟨g, zo, rfl, h⟩
  · left; rw [h]; rfl
  · by_cases h0 : ks.length = 0
    · exact .inl h0
    · refine .inr ⟨_, rfl, h.lt (by omega), fun j v hv => ?_⟩
      rw [addr_plus]
      simp only [List.getElem?_map, Option.map_eq_some_iff] at hv
      obtain ⟨x, hx, rfl⟩ := hv
      obtain ⟨hj, rfl⟩ := List.getElem?_eq_some_iff.1 hx
      exact h j hj

/-- A list of numbers that is lent: two of the caller's stand behind it. -/
def lentI (ks : List Int) : List Value := (ks ++ [77, 77]).map (Value.int .i64)

set_option maxRecDepth 100000 in
set_option maxHeartbeats 1000000 in
theorem numbers_any (sa : Option Addr) (cap : Nat) (ks : List Int) (w : World) (hks : KindsA w sa ks) (hl : ks.length ≤ 9000000) :
    Calls Tryd.prog 35 #[.slice sa ks.length cap] w fun e w' => e = .returned (.slice (some ⟨w.heap.size, 0, none⟩) (ks.length + 2) (ks.length + 2)) ∧ w'.heap[w.heap.size]? = some (.cells (lentI ks).toArray 3 (0, 0)) ∧ Below w.heap.size w w' ∧ w'.heap.size = w.heap.size + 1 := by
  obtain ⟨M, hMs, hmk⟩ := make_ints ks.length hl
  have hsrc : ks.length = 0 ∨ ∃ a, sa = some a ∧ ∀ j v, (ks.map (Value.int .i64))[j]? = some v → (w.alloc (.cells M 3)).cell? (a.add j) = some v := by
    rcases hks.src with h | ⟨a, h1, h2, h3⟩
    · exact .inl h
    · refine .inr ⟨a, h1, fun j v hv => ?_⟩
      have hb : (a.add j).block = a.block := by unfold Addr.add; split <;> rfl
      rw [← h3 j v hv]
      exact World.cell?_of_block (w := w) (a := a.add j) (by rw [hb]; exact Below.heap_alloc _ _ _ h2)
  obtain ⟨W1, hcp, hW1, hWB, hWz, _⟩ := run_copy_sized (P := Tryd.prog) (w.alloc (.cells M 3)) 24 24 3 w.heap.size (ks.length + 2) (ks.length + 2) sa ks.length cap M 3 (ks.map (Value.int .i64)) 1 Tryd.underlying24 (by kernel_rfl) (heap_alloc_new w _) (by omega) (by simp) hsrc (by simp; omega) (by simp [Value.oneCell'])
  have HB1 : Hid (Below w.heap.size w W1) := hWB _ _ ((Below.refl _ _).alloc (Nat.le_refl _) _) (Nat.le_refl _)
  have HW1 : Hid (W1.heap[w.heap.size]? = some (.cells (ks.map (Value.int .i64) ++ M.toList.drop (ks.map (Value.int .i64)).length).toArray 3 (0, 0))) := hW1
  have hWz' : W1.heap.size = w.heap.size + 1 := by rw [hWz]; simp
  clear hWB hW1 hks hsrc hWz
  unfold goInt at hcp
  go_enter Tryd.func35, Tryd.ntmps35
  go_wp2_with fail
  go_loopw [4] (fun i wr => ∃ k : Nat, ks.length ≤ k ∧ k ≤ ks.length + 2 ∧ i = .int .i64 k ∧ Below w.heap.size w wr ∧ wr.heap.size = w.heap.size + 1 ∧ ∃ cur : Array Value, wr.heap[w.heap.size]? = some (.cells cur 3 (0, 0)) ∧ cur.size = ks.length + 2 ∧ cur.toList.take k = ((ks ++ List.replicate (k - ks.length) 77).map (Value.int .i64))) (fun i _ => ks.length + 2 - (intOf i).toNat)
  case atStart => exact ⟨ks.length, Nat.le_refl _, by omega, rfl, HB1.out, hWz', _, HW1.out, by simp; omega, by simp⟩
  case round =>
    obtain ⟨k, hk1, hk2, rfl, hB, hzr, cur, hcur, hsz, htk⟩ := hrel
    by_cases hlt : k < ks.length + 2
    · obtain ⟨x1, e1⟩ : ∃ x, wr.cell? ⟨w.heap.size, k, none⟩ = some x := by
        rw [cell_of_row _ _ _ _ _ _ hcur]; exact ⟨_, Array.getElem?_eq_getElem (by omega)⟩
      have f1 : wr.frozen? ⟨w.heap.size, k, none⟩ = false := by simp [World.frozen?, hcur]
      have i0 : (0 : Int) ≤ (k : Int) := by omega
      have i1 : (k : Int) < (ks.length : Int) + 2 := by omega
      have HTK : Hid (cur.toList.take k = ((ks ++ List.replicate (k - ks.length) 77).map (Value.int .i64))) := htk
      have HCUR : Hid (wr.heap[w.heap.size]? = some (.cells cur 3 (0, 0))) := hcur
      clear htk hcur
      go_wp2
      go_roundw
      case rel =>
        refine ⟨k + 1, by omega, by omega, by go_num, hB.setCell (Nat.le_refl _) _, by simpa [World.setCell] using hzr, _, heap_setCell_same _ _ _ _ _ _ HCUR.out, by simpa using hsz, ?_⟩
        rw [Array.toList_setIfInBounds, take_set1 _ _ _ (by rw [Array.length_toList]; omega), HTK.out, show k + 1 - ks.length = (k - ks.length) + 1 by omega, List.replicate_succ']
        simp
      case measure => simp [intOf]; omega
    · have hnk : ¬ (k : Int) < (ks.length : Int) + 2 := by omega
      have hke : k = ks.length + 2 := by omega
      have HF : Hid (wr.heap[w.heap.size]? = some (.cells (lentI ks).toArray 3 (0, 0))) := by
        unfold Hid lentI
        rw [hcur]
        rw [hke, List.take_of_length_le (by rw [Array.length_toList]; omega), show ks.length + 2 - ks.length = 2 by omega] at htk
        have : cur = ((ks ++ [77, 77]).map (Value.int .i64)).toArray := by
          rw [show ([77, 77] : List Int) = List.replicate 2 77 from rfl, ← htk]
        rw [this]
      clear htk hcur
      go_wp2
      go_ret
      exact ⟨rfl, HF.out, hB, hzr⟩

theorem make_vals2 (n : Nat) (hn : n ≤ 9000000) : ∃ M : Array Value, M.size = 2 * (n + 2) ∧ ∀ W : World, (Instr.makeSlice 25 (.int .i64 ((n : Int) + 2)) (.int .i64 ((n : Int) + 2))).run Tryd.prog W = .ok (.slice (some ⟨W.heap.size, 0, none⟩) (n + 2) (n + 2)) (W.alloc (.cells M 30)) := by
  obtain ⟨i, hi, hz, h2, h24⟩ := info_parts info_value
  refine ⟨madeCells (Value.agg #[.int .i64 0, .string ⟨#[]⟩]).cells ((((n : Nat) : Int) + 2).toNat * i.size), ?_, fun W => ?_⟩
  · rw [size_madeCells, h2]; omega
  · have h := run_make (P := Tryd.prog) W 25 30 i _ Tryd.underlying25 hi hz .i64 .i64 ((n : Int) + 2) ((n : Int) + 2) (by omega) (by omega) (by rw [h24]; omega) (by omega)
    have e : ((n : Int) + 2).toNat = n + 2 := by omega
    rw [e] at h ⊢
    exact h

theorem RowAt.src {w : World} {sa : Option Addr} {r : List (Int × ByteArray)} (h : RowAt w sa r) : r.length = 0 ∨ ∃ a, sa = some a ∧ a.block < w.heap.size ∧ ∀ j v, (vcells r)[j]? = some v → w.cell? (a.add j) = some v := by
  rcases h with h | ⟨g, rfl, h⟩
  · left; rw [h]; rfl
  · by_cases h0 : r.length = 0
    · exact .inl h0
    · exact .inr ⟨_, rfl, h.lt (by omega), h.news⟩

theorem RowA.src {w : World} {sa : Option Addr} {r : List (Int × ByteArray)} (h : RowA w sa r) : r.length = 0 ∨ ∃ a, sa = some a ∧ a.block < w.heap.size ∧ ∀ j v, (vcells r)[j]? = some v → w.cell? (a.add j) = some v := by
  rcases h with h | ⟨g, zo, rfl, h⟩
  · left; rw [h]; rfl
  · by_cases h0 : r.length = 0
    · exact .inl h0
    · exact .inr ⟨_, rfl, h.lt (by omega), h.news⟩

def pads (n : Nat) : List (Int × ByteArray) := List.replicate n (77, ⟨#[]⟩)

/-- A list of values that is lent. -/
def lentV (r : List (Int × ByteArray)) : List (Int × ByteArray) := r ++ pads 2

theorem pads_succ (n : Nat) : pads (n + 1) = pads n ++ [(77, ⟨#[]⟩)] := by unfold pads; rw [List.replicate_succ']

set_option maxRecDepth 100000 in
set_option maxHeartbeats 1000000 in
theorem values_any (sa : Option Addr) (cap : Nat) (r : List (Int × ByteArray)) (w : World) (hr : RowA w sa r) (hl : r.length ≤ 9000000) :
    Calls Tryd.prog 38 #[.slice sa r.length cap] w fun e w' => e = .returned (.slice (some ⟨w.heap.size, 0, none⟩) (r.length + 2) (r.length + 2)) ∧ w'.heap[w.heap.size]? = some (.cells (vcells (lentV r)).toArray 30 (0, 0)) ∧ Below w.heap.size w w' := by
  obtain ⟨M, hMs, hmk⟩ := make_vals2 r.length hl
  have hsrc : r.length = 0 ∨ ∃ a, sa = some a ∧ ∀ j v, (vcells r)[j]? = some v → (w.alloc (.cells M 30)).cell? (a.add j) = some v := by
    rcases hr.src with h | ⟨a, h1, h2, h3⟩
    · exact .inl h
    · refine .inr ⟨a, h1, fun j v hv => ?_⟩
      have hb : (a.add j).block = a.block := by unfold Addr.add; split <;> rfl
      rw [← h3 j v hv]
      exact World.cell?_of_block (w := w) (a := a.add j) (by rw [hb]; exact Below.heap_alloc _ _ _ h2)
  obtain ⟨W1, hcp, hW1, hWB, hWz, _⟩ := run_copy_sized (P := Tryd.prog) (w.alloc (.cells M 30)) 25 25 30 w.heap.size (r.length + 2) (r.length + 2) sa r.length cap M 30 (vcells r) 2 Tryd.underlying25 (by kernel_rfl) (heap_alloc_new w _) (by omega) (by rw [vcells_length]; omega) hsrc (by rw [vcells_length]; omega) (vcells_one r)
  have HB1 : Hid (Below w.heap.size w W1) := hWB _ _ ((Below.refl _ _).alloc (Nat.le_refl _) _) (Nat.le_refl _)
  have HW1 : Hid (W1.heap[w.heap.size]? = some (.cells (vcells r ++ M.toList.drop (vcells r).length).toArray 30 (0, 0))) := hW1
  have hWz' : w.heap.size < W1.heap.size := by rw [hWz]; simp
  clear hWB hW1 hr hsrc hWz
  unfold goInt at hcp
  go_enter Tryd.func38, Tryd.ntmps38
  go_wp2_with fail
  go_loopw [4] (fun i wr => ∃ k : Nat, r.length ≤ k ∧ k ≤ r.length + 2 ∧ i = .int .i64 k ∧ Below w.heap.size w wr ∧ ∃ cur : Array Value, wr.heap[w.heap.size]? = some (.cells cur 30 (0, 0)) ∧ cur.size = 2 * (r.length + 2) ∧ cur.toList.take (2 * k) = vcells (r ++ pads (k - r.length))) (fun i _ => r.length + 2 - (intOf i).toNat)
  case atStart => exact ⟨r.length, Nat.le_refl _, by omega, rfl, HB1.out, _, HW1.out, by have := vcells_length r; simp; omega, by rw [Nat.sub_self, ← vcells_length]; simp [pads]⟩
  case round =>
    obtain ⟨k, hk1, hk2, rfl, hB, cur, hcur, hsz, htk⟩ := hrel
    by_cases hlt : k < r.length + 2
    · obtain ⟨x1, e1⟩ : ∃ x, wr.cell? ⟨w.heap.size, k * 2, none⟩ = some x := by
        rw [cell_of_row _ _ _ _ _ _ hcur]; exact ⟨_, Array.getElem?_eq_getElem (by omega)⟩
      obtain ⟨x2, e2⟩ : ∃ x, wr.cell? ⟨w.heap.size, k * 2 + 1, none⟩ = some x := by
        rw [cell_of_row _ _ _ _ _ _ hcur]; exact ⟨_, Array.getElem?_eq_getElem (by omega)⟩
      have f1 : wr.frozen? ⟨w.heap.size, k * 2, none⟩ = false := by simp [World.frozen?, hcur]
      have f2 : wr.frozen? ⟨w.heap.size, k * 2 + 1, none⟩ = false := by simp [World.frozen?, hcur]
      have i0 : (0 : Int) ≤ (k : Int) := by omega
      have i1 : (k : Int) < (r.length : Int) + 2 := by omega
      have HTK : Hid (cur.toList.take (2 * k) = vcells (r ++ pads (k - r.length))) := htk
      have HCUR : Hid (wr.heap[w.heap.size]? = some (.cells cur 30 (0, 0))) := hcur
      clear htk hcur
      go_wp2
      go_roundw
      case rel =>
        refine ⟨k + 1, by omega, by omega, by go_num, (hB.setCell (Nat.le_refl _) _).setCell (Nat.le_refl _) _, _, heap_setCell_same _ _ _ _ _ _ (heap_setCell_same _ _ _ _ _ _ HCUR.out), by simpa using hsz, ?_⟩
        rw [Array.toList_setIfInBounds, Array.toList_setIfInBounds, take_set2 _ _ _ _ (by rw [Array.length_toList]; omega), HTK.out, show k + 1 - r.length = (k - r.length) + 1 by omega, pads_succ, ← List.append_assoc, vcells_append (r ++ pads (k - r.length))]
        rfl
      case measure => simp [intOf]; omega
    · have hnk : ¬ (k : Int) < (r.length : Int) + 2 := by omega
      have hke : k = r.length + 2 := by omega
      have HF : Hid (wr.heap[w.heap.size]? = some (.cells (vcells (lentV r)).toArray 30 (0, 0))) := by
        unfold Hid lentV
        rw [hcur]
        rw [hke, List.take_of_length_le (by rw [Array.length_toList]; omega), show r.length + 2 - r.length = 2 by omega] at htk
        rw [← htk]
      clear htk hcur
      go_wp2
      go_ret
      exact ⟨rfl, HF.out, hB⟩

end Go.Proofs.YtcconhgbefhdeaaDoor
