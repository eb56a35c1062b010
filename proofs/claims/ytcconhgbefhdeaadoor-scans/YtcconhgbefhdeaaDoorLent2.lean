import Derived.Test.YtcconhgbefhdeaaDoorLent
namespace Go.Proofs.YtcconhgbefhdeaaDoor
open Go.RowKit
attribute [local go_sem ↓] Go.wp_at_zero Go.wp_at_succ

set_option maxHeartbeats 400000 in
theorem lawPick_any (c : Int) (n : Nat) (w : World) (hn : 0 < n) (hn2 : n ≤ 9000000) (c1 : -9223372036854775808 ≤ c) (c2 : c ≤ 9223372036854775807) :
    Calls Tryd.prog 21 #[.int .i64 c, .int .i64 n] w fun e w' => ∃ k : Nat, e = .returned (.int .i64 k) ∧ k < n ∧ w' = w := by
  have hz : ((n : Int) == 0) = false := by rw [beq_eq_false_iff_ne]; omega
  have key : ∀ x : Int, 0 ≤ x → ∃ k : Nat, x.tmod n = (k : Int) ∧ k < n := fun x hx => by
    have h1 := Int.tmod_nonneg (n : Int) hx
    have h2 := Int.tmod_lt_of_pos x (show (0 : Int) < (n : Int) by omega)
    exact ⟨(x.tmod n).toNat, by omega, by omega⟩
  have KEY : Hid (∀ x : Int, 0 ≤ x → ∃ k : Nat, x.tmod n = (k : Int) ∧ k < n) := key
  clear key
  by_cases h : c < 0
  · obtain ⟨k, hk, hkn⟩ := KEY.out (-(c + 1)) (by omega)
    have HK : Hid (Int.tmod (-(c + 1)) n = (k : Int)) := hk
    clear hk
    go_enter Tryd.func21, Tryd.ntmps21
    go_wp2
    go_ret
    exact ⟨k, ret_int (by rw [← Int.neg_tmod]; exact HK.out), hkn, rfl⟩
  · obtain ⟨k, hk, hkn⟩ := KEY.out c (by omega)
    have HK : Hid (Int.tmod c n = (k : Int)) := hk
    clear hk
    go_enter Tryd.func21, Tryd.ntmps21
    go_wp2
    go_ret
    exact ⟨k, ret_int (by rw [← HK.out, Int.tmod_eq_emod_of_nonneg (by omega)]), hkn, rfl⟩

/-- Tests as cells. -/
def tcells : List Tst → List Value
  | [] => []
  | t :: T => .int .i64 t.dO :: .int .i64 t.col :: .int .i64 t.n :: .string t.s :: tcells T

theorem tcells_length (T : List Tst) : (tcells T).length = 4 * T.length := by
  induction T with
  | nil => rfl
  | cons t T ih => simp [tcells, ih]; omega

theorem tcells_append (A B : List Tst) : tcells (A ++ B) = tcells A ++ tcells B := by
  induction A with
  | nil => rfl
  | cons t A ih => simp [tcells, ih]

theorem tcells_at (T : List Tst) (i : Nat) (h : i < T.length) : (tcells T)[4 * i]? = some (.int .i64 T[i].dO) ∧ (tcells T)[4 * i + 1]? = some (.int .i64 T[i].col) ∧ (tcells T)[4 * i + 2]? = some (.int .i64 T[i].n) ∧ (tcells T)[4 * i + 3]? = some (.string T[i].s) := by
  induction T generalizing i with
  | nil => simp at h
  | cons t T ih =>
    cases i with
    | zero => simp [tcells]
    | succ i =>
      have := ih i (by simpa using h)
      rw [show 4 * (i + 1) = 4 * i + 4 by omega]
      simpa [tcells] using this

theorem tcells_one (T : List Tst) : ∀ u ∈ tcells T, u.oneCell' = true := by
  induction T with
  | nil => simp [tcells]
  | cons t T ih =>
    intro u hu
    simp only [tcells, List.mem_cons] at hu
    rcases hu with rfl | rfl | rfl | rfl | hu
    · rfl
    · rfl
    · rfl
    · rfl
    · exact ih u hu

theorem TestsIn.news {w : World} {g : Nat} {T : List Tst} (h : TestsIn w g T) : ∀ j u, (tcells T)[j]? = some u → w.cell? ((⟨g, 0, none⟩ : Addr).add j) = some u := fun j u hu => by
  have hadd : (⟨g, 0, none⟩ : Addr).add j = ⟨g, j, none⟩ := by unfold Addr.add; split <;> simp_all
  rw [hadd]
  have hj : j < 4 * T.length := by
    have := (List.getElem?_eq_some_iff.1 hu).1
    rwa [tcells_length] at this
  obtain ⟨a1, a2, a3, a4⟩ := tcells_at T (j / 4) (by omega)
  obtain ⟨b1, b2, b3, b4⟩ := h (j / 4) (by omega)
  have hm : j % 4 = 0 ∨ j % 4 = 1 ∨ j % 4 = 2 ∨ j % 4 = 3 := by omega
  rcases hm with hm | hm | hm | hm
  · rw [show 4 * (j / 4) = j by omega, hu] at a1
    rw [show j / 4 * 4 = j by omega] at b1
    rw [a1, ← b1]
  · rw [show 4 * (j / 4) + 1 = j by omega, hu] at a2
    rw [show j / 4 * 4 + 1 = j by omega] at b2
    rw [a2, ← b2]
  · rw [show 4 * (j / 4) + 2 = j by omega, hu] at a3
    rw [show j / 4 * 4 + 2 = j by omega] at b3
    rw [a3, ← b3]
  · rw [show 4 * (j / 4) + 3 = j by omega, hu] at a4
    rw [show j / 4 * 4 + 3 = j by omega] at b4
    rw [a4, ← b4]

theorem TestsO.news {w : World} {g zo : Nat} {T : List Tst} (h : TestsO w g zo T) : ∀ j u, (tcells T)[j]? = some u → w.cell? ((⟨g, zo, none⟩ : Addr).add j) = some u := fun j u hu => by
  rw [addr_plus]
  have hj : j < 4 * T.length := by
    have := (List.getElem?_eq_some_iff.1 hu).1
    rwa [tcells_length] at this
  obtain ⟨a1, a2, a3, a4⟩ := tcells_at T (j / 4) (by omega)
  obtain ⟨b1, b2, b3, b4⟩ := h (j / 4) (by omega)
  have hm : j % 4 = 0 ∨ j % 4 = 1 ∨ j % 4 = 2 ∨ j % 4 = 3 := by omega
  rcases hm with hm | hm | hm | hm
  · rw [show 4 * (j / 4) = j by omega, hu] at a1
    rw [show zo + j / 4 * 4 = zo + j by omega] at b1
    rw [a1, ← b1]
  · rw [show 4 * (j / 4) + 1 = j by omega, hu] at a2
    rw [show zo + j / 4 * 4 + 1 = zo + j by omega] at b2
    rw [a2, ← b2]
  · rw [show 4 * (j / 4) + 2 = j by omega, hu] at a3
    rw [show zo + j / 4 * 4 + 2 = zo + j by omega] at b3
    rw [a3, ← b3]
  · rw [show 4 * (j / 4) + 3 = j by omega, hu] at a4
    rw [show zo + j / 4 * 4 + 3 = zo + j by omega] at b4
    rw [a4, ← b4]

theorem TestsIn.of_cells {w : World} {g : Nat} {T : List Tst} {cs : List Value} {t : TypeId} {fr : Nat × Nat} (hg : w.heap[g]? = some (.cells cs.toArray t fr)) (h : cs.take (4 * T.length) = tcells T) : TestsIn w g T := fun i hi => by
  obtain ⟨a1, a2, a3, a4⟩ := tcells_at T i hi
  have key : ∀ j v, (tcells T)[j]? = some v → w.cell? ⟨g, j, none⟩ = some v := fun j v hv => by
    rw [cell_of_row _ _ _ _ _ _ hg]
    have hj : j < 4 * T.length := by
      have := (List.getElem?_eq_some_iff.1 hv).1
      rwa [tcells_length] at this
    rw [← h, List.getElem?_take_of_lt hj] at hv
    simpa using hv
  rw [Nat.mul_comm 4 i] at a1 a2 a3 a4
  exact ⟨key _ _ a1, key _ _ a2, key _ _ a3, key _ _ a4⟩

theorem TestsAt.src {w : World} {sa : Option Addr} {T : List Tst} (h : TestsAt w sa T) : T.length = 0 ∨ ∃ a, sa = some a ∧ a.block < w.heap.size ∧ ∀ j v, (tcells T)[j]? = some v → w.cell? (a.add j) = some v := by
  rcases h with h | ⟨g, rfl, h⟩
  · left; rw [h]; rfl
  · by_cases h0 : T.length = 0
    · exact .inl h0
    · exact .inr ⟨_, rfl, h.lt (by omega), h.news⟩

theorem TestsA.src {w : World} {sa : Option Addr} {T : List Tst} (h : TestsA w sa T) : T.length = 0 ∨ ∃ a, sa = some a ∧ a.block < w.heap.size ∧ ∀ j v, (tcells T)[j]? = some v → w.cell? (a.add j) = some v := by
  rcases h with h | ⟨g, zo, rfl, h⟩
  · left; rw [h]; rfl
  · by_cases h0 : T.length = 0
    · exact .inl h0
    · exact .inr ⟨_, rfl, h.lt (by omega), h.news⟩

theorem take_set4 (l : List Value) (k : Nat) (a b c d : Value) (h : k * 4 + 3 < l.length) : ((((l.set (k * 4) a).set (k * 4 + 1) b).set (k * 4 + 2) c).set (k * 4 + 3) d).take (4 * (k + 1)) = l.take (4 * k) ++ [a, b, c, d] := by
  have e := take_set1 (((l.set (k * 4) a).set (k * 4 + 1) b).set (k * 4 + 2) c) (k * 4 + 3) d (by simpa using h)
  have e2 := take_set1 ((l.set (k * 4) a).set (k * 4 + 1) b) (k * 4 + 2) c (by simp; omega)
  have e3 := take_set1 (l.set (k * 4) a) (k * 4 + 1) b (by simp; omega)
  have e4 := take_set1 l (k * 4) a (by omega)
  rw [show 4 * (k + 1) = k * 4 + 3 + 1 by omega, e, show k * 4 + 3 = k * 4 + 2 + 1 by omega, e2, show k * 4 + 2 = k * 4 + 1 + 1 by omega, e3, e4, show 4 * k = k * 4 by omega]
  simp

theorem info_test : (Tryd.prog.info? 32).map (fun i => (i.zero, i.size, i.bytes)) = some (some (.agg #[.int .i64 0, .int .i64 0, .int .i64 0, .string ⟨#[]⟩]), 4, 40) := by kernel_rfl

theorem make_tests2 (n : Nat) (hn : n ≤ 9000000) : ∃ M : Array Value, M.size = 4 * (n + 2) ∧ ∀ W : World, (Instr.makeSlice 26 (.int .i64 ((n : Int) + 2)) (.int .i64 ((n : Int) + 2))).run Tryd.prog W = .ok (.slice (some ⟨W.heap.size, 0, none⟩) (n + 2) (n + 2)) (W.alloc (.cells M 32)) := by
  obtain ⟨i, hi, hz, h2, h24⟩ := info_parts info_test
  refine ⟨madeCells (Value.agg #[.int .i64 0, .int .i64 0, .int .i64 0, .string ⟨#[]⟩]).cells ((((n : Nat) : Int) + 2).toNat * i.size), ?_, fun W => ?_⟩
  · rw [size_madeCells, h2]; omega
  · have h := run_make (P := Tryd.prog) W 26 32 i _ Tryd.underlying26 hi hz .i64 .i64 ((n : Int) + 2) ((n : Int) + 2) (by omega) (by omega) (by rw [h24]; omega) (by omega)
    have e : ((n : Int) + 2).toNat = n + 2 := by omega
    rw [e] at h ⊢
    exact h

def padT (n : Nat) : List Tst := List.replicate n ⟨77, 0, 0, ⟨#[]⟩⟩

/-- A list of tests that is lent. -/
def lentT (T : List Tst) : List Tst := T ++ padT 2

theorem padT_succ (n : Nat) : padT (n + 1) = padT n ++ [⟨77, 0, 0, ⟨#[]⟩⟩] := by unfold padT; rw [List.replicate_succ']

set_option maxRecDepth 100000 in
set_option maxHeartbeats 1000000 in
theorem tests_any (sa : Option Addr) (cap : Nat) (T : List Tst) (w : World) (hT : TestsA w sa T) (hl : T.length ≤ 9000000) :
    Calls Tryd.prog 56 #[.slice sa T.length cap] w fun e w' => e = .returned (.slice (some ⟨w.heap.size, 0, none⟩) (T.length + 2) (T.length + 2)) ∧ w'.heap[w.heap.size]? = some (.cells (tcells (lentT T)).toArray 32 (0, 0)) ∧ Below w.heap.size w w' := by
  obtain ⟨M, hMs, hmk⟩ := make_tests2 T.length hl
  have hsrc : T.length = 0 ∨ ∃ a, sa = some a ∧ ∀ j v, (tcells T)[j]? = some v → (w.alloc (.cells M 32)).cell? (a.add j) = some v := by
    rcases hT.src with h | ⟨a, h1, h2, h3⟩
    · exact .inl h
    · refine .inr ⟨a, h1, fun j v hv => ?_⟩
      have hb : (a.add j).block = a.block := by unfold Addr.add; split <;> rfl
      rw [← h3 j v hv]
      exact World.cell?_of_block (w := w) (a := a.add j) (by rw [hb]; exact Below.heap_alloc _ _ _ h2)
  obtain ⟨W1, hcp, hW1, hWB, hWz, _⟩ := run_copy_sized (P := Tryd.prog) (w.alloc (.cells M 32)) 26 26 32 w.heap.size (T.length + 2) (T.length + 2) sa T.length cap M 32 (tcells T) 4 Tryd.underlying26 (by kernel_rfl) (heap_alloc_new w _) (by omega) (by rw [tcells_length]; omega) hsrc (by rw [tcells_length]; omega) (tcells_one T)
  have HB1 : Hid (Below w.heap.size w W1) := hWB _ _ ((Below.refl _ _).alloc (Nat.le_refl _) _) (Nat.le_refl _)
  have HW1 : Hid (W1.heap[w.heap.size]? = some (.cells (tcells T ++ M.toList.drop (tcells T).length).toArray 32 (0, 0))) := hW1
  have hWz' : w.heap.size < W1.heap.size := by rw [hWz]; simp
  clear hWB hW1 hT hsrc hWz
  unfold goInt at hcp
  go_enter Tryd.func56, Tryd.ntmps56
  go_wp2_with fail
  go_loopw [4] (fun i wr => ∃ k : Nat, T.length ≤ k ∧ k ≤ T.length + 2 ∧ i = .int .i64 k ∧ Below w.heap.size w wr ∧ ∃ cur : Array Value, wr.heap[w.heap.size]? = some (.cells cur 32 (0, 0)) ∧ cur.size = 4 * (T.length + 2) ∧ cur.toList.take (4 * k) = tcells (T ++ padT (k - T.length))) (fun i _ => T.length + 2 - (intOf i).toNat)
  case atStart => exact ⟨T.length, Nat.le_refl _, by omega, rfl, HB1.out, _, HW1.out, by have := tcells_length T; simp; omega, by rw [Nat.sub_self, ← tcells_length]; simp [padT]⟩
  case round =>
    obtain ⟨k, hk1, hk2, rfl, hB, cur, hcur, hsz, htk⟩ := hrel
    by_cases hlt : k < T.length + 2
    · have hx : ∀ j, j < 4 → ∃ x, wr.cell? ⟨w.heap.size, k * 4 + j, none⟩ = some x := fun j hj => by
        rw [cell_of_row _ _ _ _ _ _ hcur]; exact ⟨_, Array.getElem?_eq_getElem (by omega)⟩
      have hf : ∀ o, wr.frozen? ⟨w.heap.size, o, none⟩ = false := fun o => by simp [World.frozen?, hcur]
      obtain ⟨x0, e0⟩ := hx 0 (by omega)
      obtain ⟨x1, e1⟩ := hx 1 (by omega)
      obtain ⟨x2, e2⟩ := hx 2 (by omega)
      obtain ⟨x3, e3⟩ := hx 3 (by omega)
      rw [Nat.add_zero] at e0
      have f0 := hf (k * 4)
      have f1 := hf (k * 4 + 1)
      have f2 := hf (k * 4 + 2)
      have f3 := hf (k * 4 + 3)
      have i0 : (0 : Int) ≤ (k : Int) := by omega
      have i1 : (k : Int) < (T.length : Int) + 2 := by omega
      have HTK : Hid (cur.toList.take (4 * k) = tcells (T ++ padT (k - T.length))) := htk
      have HCUR : Hid (wr.heap[w.heap.size]? = some (.cells cur 32 (0, 0))) := hcur
      clear htk hcur hx hf
      go_wp2
      go_roundw
      case rel =>
        refine ⟨k + 1, by omega, by omega, by go_num, (((hB.setCell (Nat.le_refl _) _).setCell (Nat.le_refl _) _).setCell (Nat.le_refl _) _).setCell (Nat.le_refl _) _, _, heap_setCell_same _ _ _ _ _ _ (heap_setCell_same _ _ _ _ _ _ (heap_setCell_same _ _ _ _ _ _ (heap_setCell_same _ _ _ _ _ _ HCUR.out))), by simpa using hsz, ?_⟩
        rw [Array.toList_setIfInBounds, Array.toList_setIfInBounds, Array.toList_setIfInBounds, Array.toList_setIfInBounds, take_set4 _ _ _ _ _ _ (by rw [Array.length_toList]; omega), HTK.out, show k + 1 - T.length = (k - T.length) + 1 by omega, padT_succ, ← List.append_assoc, tcells_append (T ++ padT (k - T.length))]
        rfl
      case measure => simp [intOf]; omega
    · have hnk : ¬ (k : Int) < (T.length : Int) + 2 := by omega
      have hke : k = T.length + 2 := by omega
      have HF : Hid (wr.heap[w.heap.size]? = some (.cells (tcells (lentT T)).toArray 32 (0, 0))) := by
        unfold Hid lentT
        rw [hcur]
        rw [hke, List.take_of_length_le (by rw [Array.length_toList]; omega), show T.length + 2 - T.length = 2 by omega] at htk
        rw [← htk]
      clear htk hcur
      go_wp2
      go_ret
      exact ⟨rfl, HF.out, hB⟩

end Go.Proofs.YtcconhgbefhdeaaDoor
