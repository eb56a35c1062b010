import Derived.Test.YtcconhgbefhdeaaDoorPart
import Derived.Test.YtcconhgbefhdeaaDoorCmp
namespace Go.Proofs.YtcconhgbefhdeaaDoor
open Go.RowKit

set_option maxRecDepth 100000 in
set_option maxHeartbeats 4000000 in
theorem parted_ok (la ua : Option Addr) (lc uc : Nat) (R : List Raw) (U : List Int) (d c d' c' : Int) (x y : Raw) (hd : in64 d) (hc : in64 c) (hd' : in64 d') (hc' : in64 c') (hx : x.ok) (hy : y.ok) (w : World) (hl : Lent w la ua R U) :
    Calls Tryd.prog 6 #[.slice la R.length lc, .slice ua U.length uc, .int .i64 d, .int .i64 c, .agg #[.int .i64 x.n, .int .i64 x.bits, .string x.s, .int .i64 x.flag], .int .i64 d', .int .i64 c', .agg #[.int .i64 y.n, .int .i64 y.bits, .string y.s, .int .i64 y.flag]] w fun e w' => e = .returned (.bool true) ∧ Below w.heap.size w w' := by
  obtain ⟨p, hp⟩ : ∃ p, rawTest d c x = p := ⟨_, rfl⟩
  obtain ⟨q, hq⟩ : ∃ q, rawTest d' c' y = q := ⟨_, rfl⟩
  have gp : Hid (goodT [1, 2, 3, 4] p) := by unfold Hid; rw [← hp]; exact rawTest_good d c x
  have gq : Hid (goodT [1, 2, 3, 4] q) := by unfold Hid; rw [← hq]; exact rawTest_good d' c' y
  have HPE : Hid (rawTest d c x = p) := hp
  have HQE : Hid (rawTest d' c' y = q) := hq
  clear hp hq
  have HL : Hid (Lent w la ua R U) := hl
  have rl := hl.rl
  have ul := hl.ul
  have xf1 := hx.2.2.1
  have xf2 := hx.2.2.2
  have yf1 := hy.2.2.1
  have yf2 := hy.2.2.2
  clear hl hx hy
  go_enter Tryd.func6, Tryd.ntmps6
  go_wp2_with fail
  refine (known_ok _).mono ?_
  rintro e w1 ⟨rfl, hb1⟩
  have s1 := hb1.size
  simp at s1
  have B1 : Below w.heap.size w w1 := (((Below.refl _ _).alloc (Nat.le_refl _) _).alloc (by simp) _).trans (hb1.mono (by simp; omega))
  have XB1 : Hid (w1.heap[w.heap.size]? = some (.cells #[.int .i64 x.n, .int .i64 x.bits, .string x.s, .int .i64 x.flag] 36 (0, 0))) := (hb1.block _ (by simp; omega)).trans ((Below.heap_alloc _ _ _ (by simp)).trans (heap_alloc_new w _))
  have YB1 : Hid (w1.heap[w.heap.size + 1]? = some (.cells #[.int .i64 y.n, .int .i64 y.bits, .string y.s, .int .i64 y.flag] 36 (0, 0))) := (hb1.block _ (by simp)).trans (new_second w _ _)
  clear hb1
  go_wp2_with fail
  refine (table_ok la ua lc uc R U w1 (HL.out.keep B1)).mono ?_
  rintro e w2 ⟨bt, v, rfl, bs, sv, fv, L, M, hT, hM, hLe, hMe, hb2⟩
  have s2 := hb2.size
  have B2 : Below w.heap.size w w2 := B1.trans (hb2.mono (by omega))
  have XB2 : Hid (w2.heap[w.heap.size]? = some (.cells #[.int .i64 x.n, .int .i64 x.bits, .string x.s, .int .i64 x.flag] 36 (0, 0))) := (hb2.block _ (by omega)).trans XB1.out
  have YB2 : Hid (w2.heap[w.heap.size + 1]? = some (.cells #[.int .i64 y.n, .int .i64 y.bits, .string y.s, .int .i64 y.flag] 36 (0, 0))) := (hb2.block _ (by omega)).trans YB1.out
  have x0 : w2.cell? ⟨w.heap.size, 0, none⟩ = some (.int .i64 x.n) := by rw [cell_of_row _ _ _ _ _ _ XB2.out]; rfl
  have x1 : w2.cell? ⟨w.heap.size, 1, none⟩ = some (.int .i64 x.bits) := by rw [cell_of_row _ _ _ _ _ _ XB2.out]; rfl
  have x2 : w2.cell? ⟨w.heap.size, 2, none⟩ = some (.string x.s) := by rw [cell_of_row _ _ _ _ _ _ XB2.out]; rfl
  have x3 : w2.cell? ⟨w.heap.size, 3, none⟩ = some (.int .i64 x.flag) := by rw [cell_of_row _ _ _ _ _ _ XB2.out]; rfl
  have T2 : Hid (TableAt w2 (w1.heap.size + 1) bt bs [1, 2, 3, 4] L sv fv) := hT
  have M2 : Hid (RowsAt w2 (w1.heap.size + 1) v M) := hM
  have HLE : Hid (L.map Prod.snd = firsts R) := hLe
  have HME : Hid (M.map Prod.snd = firsts R) := hMe
  clear hT hM hLe hMe hb2 XB1 YB1
  go_wp2_with fail
  refine (test_ok d c x w2 hd.1 hd.2 hc.1 hc.2 xf1 xf2).mono ?_
  rintro e w3 ⟨rfl, hb3⟩
  rw [HPE.out]
  have s3 := hb3.size
  have B3 : Below w.heap.size w w3 := B2.trans (hb3.mono (by omega))
  have YB3 : ∀ o, (w3.alloc o).heap[w.heap.size + 1]? = some (.cells #[.int .i64 y.n, .int .i64 y.bits, .string y.s, .int .i64 y.flag] 36 (0, 0)) := fun o => (Below.heap_alloc _ _ _ (by omega)).trans ((hb3.block _ (by omega)).trans YB2.out)
  have y0 : ∀ o, (w3.alloc o).cell? ⟨w.heap.size + 1, 0, none⟩ = some (.int .i64 y.n) := fun o => by rw [cell_of_row _ _ _ _ _ _ (YB3 o)]; rfl
  have y1 : ∀ o, (w3.alloc o).cell? ⟨w.heap.size + 1, 1, none⟩ = some (.int .i64 y.bits) := fun o => by rw [cell_of_row _ _ _ _ _ _ (YB3 o)]; rfl
  have y2 : ∀ o, (w3.alloc o).cell? ⟨w.heap.size + 1, 2, none⟩ = some (.string y.s) := fun o => by rw [cell_of_row _ _ _ _ _ _ (YB3 o)]; rfl
  have y3 : ∀ o, (w3.alloc o).cell? ⟨w.heap.size + 1, 3, none⟩ = some (.int .i64 y.flag) := fun o => by rw [cell_of_row _ _ _ _ _ _ (YB3 o)]; rfl
  have T3 : Hid (TableAt w3 (w1.heap.size + 1) bt bs [1, 2, 3, 4] L sv fv) := T2.out.below hb3
  have M3 : Hid (RowsAt w3 (w1.heap.size + 1) v M) := M2.out.keepOn (fun j hj _ => hb3.block j hj)
  clear hb3 x0 x1 x2 x3 XB2 YB2 YB3 T2 M2
  go_wp2_with fail
  refine (test_ok d' c' y _ hd'.1 hd'.2 hc'.1 hc'.2 yf1 yf2).mono ?_
  rintro e w4 ⟨rfl, hb4⟩
  rw [HQE.out]
  have s4 := hb4.size
  simp at s4
  have B4 : Below w.heap.size w w4 := (B3.alloc (by omega) _).trans (hb4.mono (by simp; omega))
  have PB4 : Hid (w4.heap[w3.heap.size]? = some (.cells #[.int .i64 p.dO, .int .i64 p.col, .int .i64 p.n, .string p.s] 32 (0, 0))) := (hb4.block _ (by simp)).trans (heap_alloc_new w3 _)
  have PB5 : Hid ((w4.alloc (.cells #[.int .i64 q.dO, .int .i64 q.col, .int .i64 q.n, .string q.s] 32)).heap[w3.heap.size]? = some (.cells #[.int .i64 p.dO, .int .i64 p.col, .int .i64 p.n, .string p.s] 32 (0, 0))) := (Below.heap_alloc _ _ _ (by omega)).trans PB4.out
  have QB5 : Hid ((w4.alloc (.cells #[.int .i64 q.dO, .int .i64 q.col, .int .i64 q.n, .string q.s] 32)).heap[w4.heap.size]? = some (.cells #[.int .i64 q.dO, .int .i64 q.col, .int .i64 q.n, .string q.s] 32 (0, 0))) := heap_alloc_new w4 _
  have T5 : Hid (TableAt (w4.alloc (.cells #[.int .i64 q.dO, .int .i64 q.col, .int .i64 q.n, .string q.s] 32)) (w1.heap.size + 1) bt bs [1, 2, 3, 4] L sv fv) := ((T3.out.below ((Below.refl _ _).alloc (Nat.le_refl _) _)).below hb4).below ((Below.refl _ _).alloc (Nat.le_refl _) _)
  have M5 : Hid (RowsAt (w4.alloc (.cells #[.int .i64 q.dO, .int .i64 q.col, .int .i64 q.n, .string q.s] 32)) (w1.heap.size + 1) v M) := ((M3.out.keepOn (fun j hj _ => Below.heap_alloc _ _ _ hj)).keepOn (fun j hj _ => hb4.block j hj)).keepOn (fun j hj _ => Below.heap_alloc _ _ _ hj)
  have B5 : Below w.heap.size w (w4.alloc (.cells #[.int .i64 q.dO, .int .i64 q.col, .int .i64 q.n, .string q.s] 32)) := B4.alloc (by omega) _
  have z5 : w4.heap.size < (w4.alloc (.cells #[.int .i64 q.dO, .int .i64 q.col, .int .i64 q.n, .string q.s] 32)).heap.size := by simp
  have p0 : ∀ o, (w4.alloc o).cell? ⟨w3.heap.size, 0, none⟩ = some (.int .i64 p.dO) := fun o => by rw [cell_of_row _ _ _ _ _ _ ((Below.heap_alloc _ _ _ (by omega)).trans PB4.out)]; rfl
  have p1 : ∀ o, (w4.alloc o).cell? ⟨w3.heap.size, 1, none⟩ = some (.int .i64 p.col) := fun o => by rw [cell_of_row _ _ _ _ _ _ ((Below.heap_alloc _ _ _ (by omega)).trans PB4.out)]; rfl
  have p2 : ∀ o, (w4.alloc o).cell? ⟨w3.heap.size, 2, none⟩ = some (.int .i64 p.n) := fun o => by rw [cell_of_row _ _ _ _ _ _ ((Below.heap_alloc _ _ _ (by omega)).trans PB4.out)]; rfl
  have p3 : ∀ o, (w4.alloc o).cell? ⟨w3.heap.size, 3, none⟩ = some (.string p.s) := fun o => by rw [cell_of_row _ _ _ _ _ _ ((Below.heap_alloc _ _ _ (by omega)).trans PB4.out)]; rfl
  clear hb4 y0 y1 y2 y3 PB4 T3 M3
  go_wp2_with fail
  clear p0 p1 p2 p3
  have Z5 : Hid ((w4.alloc (.cells #[.int .i64 q.dO, .int .i64 q.col, .int .i64 q.n, .string q.s] 32)).heap.size = w4.heap.size + 1) := by unfold Hid; simp
  revert PB5 QB5 T5 M5 B5 z5 Z5
  generalize w4.alloc (.cells #[.int .i64 q.dO, .int .i64 q.col, .int .i64 q.n, .string q.s] 32) = w5
  intro PB5 QB5 T5 M5 B5 z5 Z5
  have TS5 : Hid (TableAt w5 (w1.heap.size + 1) bt bs [1, 2, 3, 4] L sv fv) := T5.out
  have hLl : L.length ≤ 300 := by
    have := congrArg List.length HLE.out
    unfold firsts at this
    simp at this
    omega
  have HLR : Hid (∀ p ∈ L, p.2.length = ([1, 2, 3, 4] : List Int).length ∧ ∀ z ∈ p.2, z.2.size ≤ 1000000) := fun p hp => by
    have : p.2 ∈ firsts R := by rw [← HLE.out]; exact List.mem_map_of_mem hp
    unfold firsts at this
    obtain ⟨y, _, e⟩ := List.mem_map.1 this
    rw [← e]
    exact ⟨(raw_fits y).2.2, (raw_fits y).2.1⟩
  have TAa : Hid (TableAt (w5.alloc (.cells #[.int .i64 p.dO, .int .i64 p.col, .int .i64 p.n, .string p.s] 32)) (w1.heap.size + 1) bt bs [1, 2, 3, 4] L sv fv) := T5.out.below ((Below.refl _ _).alloc (Nat.le_refl _) _)
  skip
  refine (scan_ok (w1.heap.size + 1) bt bs [1, 2, 3, 4] L sv fv 1 (some ⟨w4.heap.size + 1, 0, none⟩) [p] _ TAa.out (by omega) (by decide) (by decide) HLR.out (.inr ⟨_, rfl, by have h := tests_t w5 p; rw [Z5.out] at h; exact h⟩) (valid_t gp.out)).mono ?_
  rintro e w6 ⟨va, Ga, rfl, hG, hGe, hb, _⟩
  have s6 := hb.size
  simp at s6
  have B6 : Below w.heap.size w w6 := (B5.alloc (by have := B5.size; omega) _).trans (hb.mono (by have := B5.size; simp; omega))
  have K6 : Below w5.heap.size w5 w6 := ((Below.refl _ _).alloc (Nat.le_refl _) _).trans (hb.mono (by simp))
  have T6 : Hid (TableAt w6 (w1.heap.size + 1) bt bs [1, 2, 3, 4] L sv fv) := T5.out.below K6
  have M6 : Hid (RowsAt w6 (w1.heap.size + 1) v M) := M5.out.keepOn (fun j hj _ => K6.block j hj)
  have PB6 : Hid (w6.heap[w3.heap.size]? = some (.cells #[.int .i64 p.dO, .int .i64 p.col, .int .i64 p.n, .string p.s] 32 (0, 0))) := (K6.block _ (by omega)).trans PB5.out
  have QB6 : Hid (w6.heap[w4.heap.size]? = some (.cells #[.int .i64 q.dO, .int .i64 q.col, .int .i64 q.n, .string q.s] 32 (0, 0))) := (K6.block _ (by omega)).trans QB5.out
  have z6 : w4.heap.size < w6.heap.size := by omega
  have Ea : Hid (Ga.map Prod.snd = (firsts R).filter (fun r => passB [1, 2, 3, 4] r [p])) := by unfold Hid; rw [hGe, HLE.out]
  have La6 : Hid (RowsAt w6 (w5.heap.size + 1) va Ga) := by unfold Hid; simpa using hG
  clear hG hGe hb T5 M5 PB5 QB5 TAa K6 B5 z5
  have p0 : w6.cell? ⟨w3.heap.size, 0, none⟩ = some (.int .i64 p.dO) := by rw [cell_of_row _ _ _ _ _ _ PB6.out]; rfl
  have p1 : w6.cell? ⟨w3.heap.size, 1, none⟩ = some (.int .i64 p.col) := by rw [cell_of_row _ _ _ _ _ _ PB6.out]; rfl
  have p2 : w6.cell? ⟨w3.heap.size, 2, none⟩ = some (.int .i64 p.n) := by rw [cell_of_row _ _ _ _ _ _ PB6.out]; rfl
  have p3 : w6.cell? ⟨w3.heap.size, 3, none⟩ = some (.string p.s) := by rw [cell_of_row _ _ _ _ _ _ PB6.out]; rfl
  have TAb : Hid (TableAt (w6.alloc (.cells #[.int .i64 p.dO, .int .i64 p.col, .int .i64 p.n, .string p.s, .int .i64 9, .int .i64 0, .int .i64 0, .string ⟨#[]⟩] 32)) (w1.heap.size + 1) bt bs [1, 2, 3, 4] L sv fv) := T6.out.below ((Below.refl _ _).alloc (Nat.le_refl _) _)
  go_wp2_with fail
  refine (scan_ok (w1.heap.size + 1) bt bs [1, 2, 3, 4] L sv fv 2 (some ⟨w6.heap.size, 0, none⟩) [p, tNot] _ TAb.out (by omega) (by decide) (by decide) HLR.out (.inr ⟨_, rfl, tests_tu _ p tNot⟩) (valid_tn gp.out)).mono ?_
  rintro e w7 ⟨vb, Gb, rfl, hG, hGe, hb, _⟩
  have s7 := hb.size
  simp at s7
  have B7 : Below w.heap.size w w7 := (B6.alloc (by have := B6.size; omega) _).trans (hb.mono (by have := B6.size; simp; omega))
  have K7 : Below w6.heap.size w6 w7 := ((Below.refl _ _).alloc (Nat.le_refl _) _).trans (hb.mono (by simp))
  have T7 : Hid (TableAt w7 (w1.heap.size + 1) bt bs [1, 2, 3, 4] L sv fv) := T6.out.below K7
  have M7 : Hid (RowsAt w7 (w1.heap.size + 1) v M) := M6.out.keepOn (fun j hj _ => K7.block j hj)
  have PB7 : Hid (w7.heap[w3.heap.size]? = some (.cells #[.int .i64 p.dO, .int .i64 p.col, .int .i64 p.n, .string p.s] 32 (0, 0))) := (K7.block _ (by omega)).trans PB6.out
  have QB7 : Hid (w7.heap[w4.heap.size]? = some (.cells #[.int .i64 q.dO, .int .i64 q.col, .int .i64 q.n, .string q.s] 32 (0, 0))) := (K7.block _ (by omega)).trans QB6.out
  have z7 : w4.heap.size < w7.heap.size := by omega
  have Eb : Hid (Gb.map Prod.snd = (firsts R).filter (fun r => passB [1, 2, 3, 4] r [p, tNot])) := by unfold Hid; rw [hGe, HLE.out]
  have La7 : Hid (RowsAt w7 (w5.heap.size + 1) va Ga) := La6.out.keepOn (fun j hj _ => K7.block j hj)
  have Lb7 : Hid (RowsAt w7 (w6.heap.size + 1) vb Gb) := by unfold Hid; simpa using hG
  clear hG hGe hb T6 M6 PB6 QB6 TAb K7 B6 z6 p0 p1 p2 p3 La6
  have q0 : w7.cell? ⟨w4.heap.size, 0, none⟩ = some (.int .i64 q.dO) := by rw [cell_of_row _ _ _ _ _ _ QB7.out]; rfl
  have q1 : w7.cell? ⟨w4.heap.size, 1, none⟩ = some (.int .i64 q.col) := by rw [cell_of_row _ _ _ _ _ _ QB7.out]; rfl
  have q2 : w7.cell? ⟨w4.heap.size, 2, none⟩ = some (.int .i64 q.n) := by rw [cell_of_row _ _ _ _ _ _ QB7.out]; rfl
  have q3 : w7.cell? ⟨w4.heap.size, 3, none⟩ = some (.string q.s) := by rw [cell_of_row _ _ _ _ _ _ QB7.out]; rfl
  have TAc : Hid (TableAt (w7.alloc (.cells #[.int .i64 q.dO, .int .i64 q.col, .int .i64 q.n, .string q.s] 32)) (w1.heap.size + 1) bt bs [1, 2, 3, 4] L sv fv) := T7.out.below ((Below.refl _ _).alloc (Nat.le_refl _) _)
  go_wp2_with fail
  refine (scan_ok (w1.heap.size + 1) bt bs [1, 2, 3, 4] L sv fv 1 (some ⟨w7.heap.size, 0, none⟩) [q] _ TAc.out (by omega) (by decide) (by decide) HLR.out (.inr ⟨_, rfl, tests_t _ q⟩) (valid_t gq.out)).mono ?_
  rintro e w8 ⟨vc, Gc, rfl, hG, hGe, hb, _⟩
  have s8 := hb.size
  simp at s8
  have B8 : Below w.heap.size w w8 := (B7.alloc (by have := B7.size; omega) _).trans (hb.mono (by have := B7.size; simp; omega))
  have K8 : Below w7.heap.size w7 w8 := ((Below.refl _ _).alloc (Nat.le_refl _) _).trans (hb.mono (by simp))
  have T8 : Hid (TableAt w8 (w1.heap.size + 1) bt bs [1, 2, 3, 4] L sv fv) := T7.out.below K8
  have M8 : Hid (RowsAt w8 (w1.heap.size + 1) v M) := M7.out.keepOn (fun j hj _ => K8.block j hj)
  have PB8 : Hid (w8.heap[w3.heap.size]? = some (.cells #[.int .i64 p.dO, .int .i64 p.col, .int .i64 p.n, .string p.s] 32 (0, 0))) := (K8.block _ (by omega)).trans PB7.out
  have QB8 : Hid (w8.heap[w4.heap.size]? = some (.cells #[.int .i64 q.dO, .int .i64 q.col, .int .i64 q.n, .string q.s] 32 (0, 0))) := (K8.block _ (by omega)).trans QB7.out
  have z8 : w4.heap.size < w8.heap.size := by omega
  have Ec : Hid (Gc.map Prod.snd = (firsts R).filter (fun r => passB [1, 2, 3, 4] r [q])) := by unfold Hid; rw [hGe, HLE.out]
  have La8 : Hid (RowsAt w8 (w5.heap.size + 1) va Ga) := La7.out.keepOn (fun j hj _ => K8.block j hj)
  have Lb8 : Hid (RowsAt w8 (w6.heap.size + 1) vb Gb) := Lb7.out.keepOn (fun j hj _ => K8.block j hj)
  obtain ⟨ac, cc, rfl, _, _⟩ := hG.lie
  clear hG hGe hb T7 M7 PB7 QB7 TAc K8 B7 z7 q0 q1 q2 q3 La7 Lb7
  have p0 : w8.cell? ⟨w3.heap.size, 0, none⟩ = some (.int .i64 p.dO) := by rw [cell_of_row _ _ _ _ _ _ PB8.out]; rfl
  have p1 : w8.cell? ⟨w3.heap.size, 1, none⟩ = some (.int .i64 p.col) := by rw [cell_of_row _ _ _ _ _ _ PB8.out]; rfl
  have p2 : w8.cell? ⟨w3.heap.size, 2, none⟩ = some (.int .i64 p.n) := by rw [cell_of_row _ _ _ _ _ _ PB8.out]; rfl
  have p3 : w8.cell? ⟨w3.heap.size, 3, none⟩ = some (.string p.s) := by rw [cell_of_row _ _ _ _ _ _ PB8.out]; rfl
  have q0 : w8.cell? ⟨w4.heap.size, 0, none⟩ = some (.int .i64 q.dO) := by rw [cell_of_row _ _ _ _ _ _ QB8.out]; rfl
  have q1 : w8.cell? ⟨w4.heap.size, 1, none⟩ = some (.int .i64 q.col) := by rw [cell_of_row _ _ _ _ _ _ QB8.out]; rfl
  have q2 : w8.cell? ⟨w4.heap.size, 2, none⟩ = some (.int .i64 q.n) := by rw [cell_of_row _ _ _ _ _ _ QB8.out]; rfl
  have q3 : w8.cell? ⟨w4.heap.size, 3, none⟩ = some (.string q.s) := by rw [cell_of_row _ _ _ _ _ _ QB8.out]; rfl
  have TAe : Hid (TableAt (w8.alloc (.cells #[.int .i64 p.dO, .int .i64 p.col, .int .i64 p.n, .string p.s, .int .i64 q.dO, .int .i64 q.col, .int .i64 q.n, .string q.s, .int .i64 7, .int .i64 0, .int .i64 0, .string ⟨#[]⟩] 32)) (w1.heap.size + 1) bt bs [1, 2, 3, 4] L sv fv) := T8.out.below ((Below.refl _ _).alloc (Nat.le_refl _) _)
  go_wp2_with fail
  refine (scan_ok (w1.heap.size + 1) bt bs [1, 2, 3, 4] L sv fv 3 (some ⟨w8.heap.size, 0, none⟩) [p, q, tAnd] _ TAe.out (by omega) (by decide) (by decide) HLR.out (.inr ⟨_, rfl, tests_tuv _ p q tAnd⟩) (valid_tua gp.out gq.out)).mono ?_
  rintro e w9 ⟨ve, Ge, rfl, hG, hGe, hb, _⟩
  have s9 := hb.size
  simp at s9
  have B9 : Below w.heap.size w w9 := (B8.alloc (by have := B8.size; omega) _).trans (hb.mono (by have := B8.size; simp; omega))
  have K9 : Below w8.heap.size w8 w9 := ((Below.refl _ _).alloc (Nat.le_refl _) _).trans (hb.mono (by simp))
  have T9 : Hid (TableAt w9 (w1.heap.size + 1) bt bs [1, 2, 3, 4] L sv fv) := T8.out.below K9
  have M9 : Hid (RowsAt w9 (w1.heap.size + 1) v M) := M8.out.keepOn (fun j hj _ => K9.block j hj)
  have PB9 : Hid (w9.heap[w3.heap.size]? = some (.cells #[.int .i64 p.dO, .int .i64 p.col, .int .i64 p.n, .string p.s] 32 (0, 0))) := (K9.block _ (by omega)).trans PB8.out
  have QB9 : Hid (w9.heap[w4.heap.size]? = some (.cells #[.int .i64 q.dO, .int .i64 q.col, .int .i64 q.n, .string q.s] 32 (0, 0))) := (K9.block _ (by omega)).trans QB8.out
  have z9 : w4.heap.size < w9.heap.size := by omega
  have Ee : Hid (Ge.map Prod.snd = (firsts R).filter (fun r => passB [1, 2, 3, 4] r [p, q, tAnd])) := by unfold Hid; rw [hGe, HLE.out]
  have La9 : Hid (RowsAt w9 (w5.heap.size + 1) va Ga) := La8.out.keepOn (fun j hj _ => K9.block j hj)
  have Lb9 : Hid (RowsAt w9 (w6.heap.size + 1) vb Gb) := Lb8.out.keepOn (fun j hj _ => K9.block j hj)
  obtain ⟨ae, ce, rfl, _, _⟩ := hG.lie
  clear hG hGe hb T8 M8 PB8 QB8 TAe K9 B8 z8 p0 p1 p2 p3 q0 q1 q2 q3 La8 Lb8
  have p0 : w9.cell? ⟨w3.heap.size, 0, none⟩ = some (.int .i64 p.dO) := by rw [cell_of_row _ _ _ _ _ _ PB9.out]; rfl
  have p1 : w9.cell? ⟨w3.heap.size, 1, none⟩ = some (.int .i64 p.col) := by rw [cell_of_row _ _ _ _ _ _ PB9.out]; rfl
  have p2 : w9.cell? ⟨w3.heap.size, 2, none⟩ = some (.int .i64 p.n) := by rw [cell_of_row _ _ _ _ _ _ PB9.out]; rfl
  have p3 : w9.cell? ⟨w3.heap.size, 3, none⟩ = some (.string p.s) := by rw [cell_of_row _ _ _ _ _ _ PB9.out]; rfl
  have q0 : w9.cell? ⟨w4.heap.size, 0, none⟩ = some (.int .i64 q.dO) := by rw [cell_of_row _ _ _ _ _ _ QB9.out]; rfl
  have q1 : w9.cell? ⟨w4.heap.size, 1, none⟩ = some (.int .i64 q.col) := by rw [cell_of_row _ _ _ _ _ _ QB9.out]; rfl
  have q2 : w9.cell? ⟨w4.heap.size, 2, none⟩ = some (.int .i64 q.n) := by rw [cell_of_row _ _ _ _ _ _ QB9.out]; rfl
  have q3 : w9.cell? ⟨w4.heap.size, 3, none⟩ = some (.string q.s) := by rw [cell_of_row _ _ _ _ _ _ QB9.out]; rfl
  have TAf : Hid (TableAt (w9.alloc (.cells #[.int .i64 p.dO, .int .i64 p.col, .int .i64 p.n, .string p.s, .int .i64 q.dO, .int .i64 q.col, .int .i64 q.n, .string q.s, .int .i64 8, .int .i64 0, .int .i64 0, .string ⟨#[]⟩] 32)) (w1.heap.size + 1) bt bs [1, 2, 3, 4] L sv fv) := T9.out.below ((Below.refl _ _).alloc (Nat.le_refl _) _)
  go_wp2_with fail
  refine (scan_ok (w1.heap.size + 1) bt bs [1, 2, 3, 4] L sv fv 3 (some ⟨w9.heap.size, 0, none⟩) [p, q, tOr] _ TAf.out (by omega) (by decide) (by decide) HLR.out (.inr ⟨_, rfl, tests_tuv _ p q tOr⟩) (valid_tuo gp.out gq.out)).mono ?_
  rintro e w10 ⟨vf, Gf, rfl, hG, hGe, hb, _⟩
  have s10 := hb.size
  simp at s10
  have B10 : Below w.heap.size w w10 := (B9.alloc (by have := B9.size; omega) _).trans (hb.mono (by have := B9.size; simp; omega))
  have K10 : Below w9.heap.size w9 w10 := ((Below.refl _ _).alloc (Nat.le_refl _) _).trans (hb.mono (by simp))
  have T10 : Hid (TableAt w10 (w1.heap.size + 1) bt bs [1, 2, 3, 4] L sv fv) := T9.out.below K10
  have M10 : Hid (RowsAt w10 (w1.heap.size + 1) v M) := M9.out.keepOn (fun j hj _ => K10.block j hj)
  have PB10 : Hid (w10.heap[w3.heap.size]? = some (.cells #[.int .i64 p.dO, .int .i64 p.col, .int .i64 p.n, .string p.s] 32 (0, 0))) := (K10.block _ (by omega)).trans PB9.out
  have QB10 : Hid (w10.heap[w4.heap.size]? = some (.cells #[.int .i64 q.dO, .int .i64 q.col, .int .i64 q.n, .string q.s] 32 (0, 0))) := (K10.block _ (by omega)).trans QB9.out
  have z10 : w4.heap.size < w10.heap.size := by omega
  have Ef : Hid (Gf.map Prod.snd = (firsts R).filter (fun r => passB [1, 2, 3, 4] r [p, q, tOr])) := by unfold Hid; rw [hGe, HLE.out]
  have La10 : Hid (RowsAt w10 (w5.heap.size + 1) va Ga) := La9.out.keepOn (fun j hj _ => K10.block j hj)
  have Lb10 : Hid (RowsAt w10 (w6.heap.size + 1) vb Gb) := Lb9.out.keepOn (fun j hj _ => K10.block j hj)
  obtain ⟨af, cf, rfl, _, _⟩ := hG.lie
  clear hG hGe hb T9 M9 PB9 QB9 TAf K10 B9 z9 p0 p1 p2 p3 q0 q1 q2 q3 La9 Lb9
  obtain ⟨P, hP⟩ : ∃ P : List (Int × ByteArray) → Bool, P = fun r => passB [1, 2, 3, 4] r [p] := ⟨_, rfl⟩
  have FA : Hid (Ga.map Prod.snd = (firsts R).filter P) := by unfold Hid; rw [hP]; exact Ea.out
  have FB : Hid (Gb.map Prod.snd = (firsts R).filter (fun r => !P r)) := by unfold Hid; rw [hP, Eb.out]; exact List.filter_congr (fun r _ => pass_n gp.out r)
  have hA3 : Ga.length + Gb.length = M.length := by
    have h1 := congrArg List.length FA.out
    have h2 := congrArg List.length FB.out
    have h3 := congrArg List.length HME.out
    simp only [List.length_map] at h1 h2 h3
    rw [h1, h2, h3]
    exact count_both P _
  have hA4 : Ge.length + Gf.length = Ga.length + Gc.length := by
    have h1 := congrArg List.length Ea.out
    have h2 := congrArg List.length Ec.out
    have h3 := congrArg List.length Ee.out
    have h4 := congrArg List.length Ef.out
    simp only [List.length_map] at h1 h2 h3 h4
    rw [h1, h2, h3, h4, List.filter_congr (fun r _ => pass_a gp.out gq.out r), List.filter_congr (fun r _ => pass_o gp.out gq.out r)]
    exact count_two _ _ _
  have hMl : M.length ≤ 300 := by
    have := congrArg List.length HME.out
    unfold firsts at this
    simp at this
    omega
  have hCl : Gc.length ≤ 300 := by
    have h2 := congrArg List.length Ec.out
    have h3 := congrArg List.length HME.out
    simp only [List.length_map] at h2 h3
    have := List.length_filter_le (fun r => passB [1, 2, 3, 4] r [q]) (firsts R)
    omega
  have HA3 : Hid (Ga.length + Gb.length = M.length) := hA3
  have HA4 : Hid (Ge.length + Gf.length = Ga.length + Gc.length) := hA4
  have i1 : (Ga.length : Int) + (Gb.length : Int) = (M.length : Int) := by omega
  have i2 : (Ge.length : Int) + (Gf.length : Int) = (Ga.length : Int) + (Gc.length : Int) := by omega
  have j1 : Ga.length ≤ 300 := by omega
  have j2 : Gb.length ≤ 300 := by omega
  have HPD : Hid (P = fun r => passB [1, 2, 3, 4] r [p]) := hP
  clear Ea Eb Ec Ee Ef hP hA3 hA4
  obtain ⟨ya, yc, rfl, hyc, hyl⟩ := La10.out.lie
  obtain ⟨na, nc, rfl, hnc, hnl⟩ := Lb10.out.lie
  obtain ⟨ma, mc, rfl, hmc, hml⟩ := M10.out.lie
  have HYL : Hid (0 < Ga.length → ∃ g, ya = some ⟨g, 0, none⟩ ∧ g < w10.heap.size ∧ w5.heap.size + 1 ≤ g ∧ ∀ k (hk : k < Ga.length), w10.cell? ⟨g, k, none⟩ = some (rval Ga[k])) := hyl
  have HNL : Hid (0 < Gb.length → ∃ g, na = some ⟨g, 0, none⟩ ∧ g < w10.heap.size ∧ w6.heap.size + 1 ≤ g ∧ ∀ k (hk : k < Gb.length), w10.cell? ⟨g, k, none⟩ = some (rval Gb[k])) := hnl
  have HML : Hid (0 < M.length → ∃ g, ma = some ⟨g, 0, none⟩ ∧ g < w10.heap.size ∧ w1.heap.size + 1 ≤ g ∧ ∀ k (hk : k < M.length), w10.cell? ⟨g, k, none⟩ = some (rval M[k])) := hml
  clear hyl hnl hml
  have k1 : (((Ga.length : Int) + (Gb.length : Int)) != (M.length : Int)) = false := by rw [i1]; simp
  have k2 : (((Ge.length : Int) + (Gf.length : Int)) != ((Ga.length : Int) + (Gc.length : Int))) = false := by rw [i2]; simp
  have k3 : IntKind.i64.wrap ((Ga.length : Int) + (Gb.length : Int)) = (M.length : Int) := by rw [IntKind.wrap_i64]; omega
  have k4 : IntKind.i64.wrap ((Ge.length : Int) + (Gf.length : Int)) = IntKind.i64.wrap ((Ga.length : Int) + (Gc.length : Int)) := by rw [i2]
  have k5 : ∀ a : Int, (a != a) = false := fun a => by simp
  clear i1 i2 k1 k2
  go_wp2_with fail
  have HF1 : Hid (∀ k (hk : k < M.length), P M[k].2 = true → (Ga.map Prod.snd)[(((M.map Prod.snd).take k).filter P).length]? = some M[k].2) := fun k hk h => by
    have e : (M.map Prod.snd)[k]'(by simpa using hk) = M[k].2 := by simp
    have := filter_at P (M.map Prod.snd) k (by simpa using hk) (by rw [e]; exact h)
    rw [e] at this
    rw [FA.out, ← HME.out]; exact this
  have HF2 : Hid (∀ k (hk : k < M.length), P M[k].2 = false → (Gb.map Prod.snd)[(((M.map Prod.snd).take k).filter (fun r => !P r)).length]? = some M[k].2) := fun k hk h => by
    have e : (M.map Prod.snd)[k]'(by simpa using hk) = M[k].2 := by simp
    have := filter_at (fun r => !P r) (M.map Prod.snd) k (by simpa using hk) (by rw [e, h]; rfl)
    rw [e] at this
    rw [FB.out, ← HME.out]; exact this
  have HC1 : Hid (∀ k (hk : k < M.length), (((M.map Prod.snd).take (k + 1)).filter P).length = (((M.map Prod.snd).take k).filter P).length + (if P M[k].2 then 1 else 0)) := fun k hk => by
    have := filter_take1 P (M.map Prod.snd) k (by simpa using hk)
    simpa using this
  have HC2 : Hid (∀ k (hk : k < M.length), (((M.map Prod.snd).take (k + 1)).filter (fun r => !P r)).length = (((M.map Prod.snd).take k).filter (fun r => !P r)).length + (if P M[k].2 then 0 else 1)) := fun k hk => by
    have := filter_take1 (fun r => !P r) (M.map Prod.snd) k (by simpa using hk)
    rw [this]
    cases h : P M[k].2 <;> simp [h]
  have HPA : Hid (∀ j (hj : j < Ga.length), P Ga[j].2 = true ∧ Ga[j].2.length = 4) := fun j hj => by
    have h1 : Ga[j].2 ∈ (firsts R).filter P := by rw [← FA.out]; exact List.mem_map_of_mem (List.getElem_mem hj)
    obtain ⟨h2, h3⟩ := List.mem_filter.1 h1
    unfold firsts at h2
    obtain ⟨y, _, e⟩ := List.mem_map.1 h2
    exact ⟨h3, by rw [← e]; exact (raw_fits y).2.2⟩
  have HPB : Hid (∀ j (hj : j < Gb.length), P Gb[j].2 = false ∧ Gb[j].2.length = 4) := fun j hj => by
    have h1 : Gb[j].2 ∈ (firsts R).filter (fun r => !P r) := by rw [← FB.out]; exact List.mem_map_of_mem (List.getElem_mem hj)
    obtain ⟨h2, h3⟩ := List.mem_filter.1 h1
    unfold firsts at h2
    obtain ⟨y, _, e⟩ := List.mem_map.1 h2
    exact ⟨by simpa using h3, by rw [← e]; exact (raw_fits y).2.2⟩
  have HPM : Hid (∀ j (hj : j < M.length), M[j].2.length = 4) := fun j hj => by
    have h2 : M[j].2 ∈ firsts R := by rw [← HME.out]; exact List.mem_map_of_mem (List.getElem_mem hj)
    unfold firsts at h2
    obtain ⟨y, _, e⟩ := List.mem_map.1 h2
    rw [← e]; exact (raw_fits y).2.2
  go_loopw [33, 34, 35] (fun a b i wr => ∃ k : Nat, k ≤ M.length ∧ i = .int .i64 k ∧ a = .int .i64 ((((M.map Prod.snd).take k).filter P).length : Nat) ∧ b = .int .i64 ((((M.map Prod.snd).take k).filter (fun r => !P r)).length : Nat) ∧ Below w10.heap.size w10 wr) (fun _ _ i _ => M.length - (intOf i).toNat)
  case atStart => exact ⟨0, Nat.zero_le _, rfl, rfl, rfl, Below.refl _ _⟩
  case round =>
    obtain ⟨k, hk, rfl, rfl, rfl, hB⟩ := hrel
    have hca : (((M.map Prod.snd).take k).filter P).length ≤ k := Nat.le_trans (List.length_filter_le _ _) (by simp; omega)
    have hcb : (((M.map Prod.snd).take k).filter (fun r => !P r)).length ≤ k := Nat.le_trans (List.length_filter_le _ _) (by simp; omega)
    have hsr := hB.size
    by_cases hlt : k < M.length
    · obtain ⟨mg, rfl, hmg, _, hmc'⟩ := HML.out (by omega)
      have hM4 := HPM.out k hlt
      have m1 : wr.cell? ⟨mg, k, none⟩ = some (.slice (some ⟨M[k].1, 0, none⟩) 4 4) := by
        rw [hB.cell (p := ⟨mg, k, none⟩) hmg, hmc' k hlt, rval, hM4]
      have hmb := (M10.out.blk M[k] (List.getElem_mem hlt)).2
      have MIN : Hid (RowIn wr M[k].1 M[k].2) := hmb.rowIn.keep (hB.block _ hmb.lt)
      have HM4 : Hid (M[k].2.length = 4) := hM4
      have HCA := HC1.out k hlt
      have HCB := HC2.out k hlt
      have HFA := HF1.out k hlt
      have HFB := HF2.out k hlt
      have hk0 : (0 : Int) ≤ (k : Int) := by omega
      have hk1 : (k : Int) < (M.length : Int) := by omega
      have XCA : Hid ((((M.map Prod.snd).take (k + 1)).filter P).length = (((M.map Prod.snd).take k).filter P).length + (if P M[k].2 then 1 else 0)) := HCA
      have XCB : Hid ((((M.map Prod.snd).take (k + 1)).filter (fun r => !P r)).length = (((M.map Prod.snd).take k).filter (fun r => !P r)).length + (if P M[k].2 then 0 else 1)) := HCB
      have XFA : Hid (P M[k].2 = true → (Ga.map Prod.snd)[(((M.map Prod.snd).take k).filter P).length]? = some M[k].2) := HFA
      have XFB : Hid (P M[k].2 = false → (Gb.map Prod.snd)[(((M.map Prod.snd).take k).filter (fun r => !P r)).length]? = some M[k].2) := HFB
      clear HCA HCB HFA HFB hM4 hmb hmc'
      generalize hna : (((M.map Prod.snd).take k).filter P).length = ca at *
      generalize hnb : (((M.map Prod.snd).take k).filter (fun r => !P r)).length = cb at *
      clear hna hnb
      generalize M[k] = pk at *
      obtain ⟨pg, rr⟩ := pk
      dsimp only at *
      cases hpv : P rr
      · have hbu : cb < Gb.length := by
          have h := (List.getElem?_eq_some_iff.1 (XFB.out hpv)).1
          simpa using h
        by_cases hau : ca < Ga.length
        · skip
          have HPV : Hid (P rr = false) := hpv
          obtain ⟨yg, rfl, hyg, _, hycl⟩ := HYL.out (by omega)
          have ya1 : wr.cell? ⟨yg, ca, none⟩ = some (.slice (some ⟨Ga[ca].1, 0, none⟩) 4 4) := by rw [hB.cell (p := ⟨yg, ca, none⟩) hyg, hycl ca hau, rval, (HPA.out ca hau).2]
          have hyb := (La10.out.blk Ga[ca] (List.getElem_mem hau)).2
          have YIN : Hid (RowIn wr Ga[ca].1 Ga[ca].2) := hyb.rowIn.keep (hB.block _ hyb.lt)
          have HY4 : Hid (Ga[ca].2.length = 4) := (HPA.out ca hau).2
          have HD1 : Hid (decide (rr = Ga[ca].2) = false) := decide_eq_false (fun e => by have h := (HPA.out ca hau).1; rw [← e, hpv] at h; cases h)
          clear hycl hyb
          generalize Ga[ca] = ak at *
          obtain ⟨ag, aq⟩ := ak
          dsimp only at *
          have ia : (ca : Int) < (Ga.length : Int) := by omega
          have ia2 : ¬ yc = ca := by omega
          have ia3 : (0 : Int) ≤ (ca : Int) := by omega
          have ia4 : (ca : Int) ≤ (ca : Int) + 1 := by omega
          have ia5 : (ca : Int) + 1 ≤ (yc : Int) := by omega
          have ia6 : IntKind.i64.wrap ((ca : Int) + 1) = (ca : Int) + 1 := by rw [IntKind.wrap_i64]; omega
          have ia7 : (0 : Int) ≤ (ca : Int) + 1 := by omega
          obtain ⟨ng, rfl, hng, _, hncl⟩ := HNL.out (by omega)
          have nb1 : wr.cell? ⟨ng, cb, none⟩ = some (.slice (some ⟨Gb[cb].1, 0, none⟩) 4 4) := by rw [hB.cell (p := ⟨ng, cb, none⟩) hng, hncl cb hbu, rval, (HPB.out cb hbu).2]
          have hnb := (Lb10.out.blk Gb[cb] (List.getElem_mem hbu)).2
          have NIN : Hid (RowIn wr Gb[cb].1 Gb[cb].2) := hnb.rowIn.keep (hB.block _ hnb.lt)
          have HN4 : Hid (Gb[cb].2.length = 4) := (HPB.out cb hbu).2
          have HD2 : Hid (decide (rr = Gb[cb].2) = true) := by
            have h := XFB.out hpv
            simp [hbu] at h
            exact decide_eq_true h.symm
          clear hncl hnb
          generalize Gb[cb] = bk at *
          obtain ⟨bg, bq⟩ := bk
          dsimp only at *
          have ib : (cb : Int) < (Gb.length : Int) := by omega
          have ib2 : ¬ nc = cb := by omega
          have ib3 : (0 : Int) ≤ (cb : Int) := by omega
          have ib4 : (cb : Int) ≤ (cb : Int) + 1 := by omega
          have ib5 : (cb : Int) + 1 ≤ (nc : Int) := by omega
          have ib6 : IntKind.i64.wrap ((cb : Int) + 1) = (cb : Int) + 1 := by rw [IntKind.wrap_i64]; omega
          have ib7 : (0 : Int) ≤ (cb : Int) + 1 := by omega
          clear hpv
          go_wp2_with fail
          have e1 : (wr.alloc (.cells #[.slice (some ⟨pg, 0, none⟩) 4 4] 25)).drew.cell? ⟨wr.heap.size, 0, none⟩ = some (.slice (some ⟨pg, 0, none⟩) 4 4) := by simp
          have e2 : (wr.alloc (.cells #[.slice (some ⟨pg, 0, none⟩) 4 4] 25)).drew.cell? ⟨yg, ca, none⟩ = some (.slice (some ⟨ag, 0, none⟩) 4 4) := (cell_alloc wr _ yg ca (by omega)).trans ya1
          have r1 : Hid (RowIn (wr.alloc (.cells #[.slice (some ⟨pg, 0, none⟩) 4 4] 25)).drew pg rr) := MIN.out.keep (Below.heap_alloc _ _ _ (MIN.out.lt (by have := HM4.out; omega)))
          have r2 : Hid (RowIn (wr.alloc (.cells #[.slice (some ⟨pg, 0, none⟩) 4 4] 25)).drew ag aq) := YIN.out.keep (Below.heap_alloc _ _ _ (YIN.out.lt (by have := HY4.out; omega)))
          go_region_held3 (fun w' => w'.cell? ⟨mg, k, none⟩ = some (.slice (some ⟨pg, 0, none⟩) 4 4)) (go_keep)
            (first
              | (go_at_call 14; refine (same_four wr.heap.size 0 yg ca 1 (yc - ca) pg ag rr aq _ e1 e2 HM4.out HY4.out r1.out r2.out).mono ?_; rintro e w11 ⟨rfl, K11⟩; rw [HD1.out]
                 have m1' : w11.cell? ⟨mg, k, none⟩ = some (.slice (some ⟨pg, 0, none⟩) 4 4) := (K11.cell (p := ⟨mg, k, none⟩) (by simp; omega)).trans ((cell_alloc wr _ mg k (by omega)).trans m1)))
          replace K11 : Below wr.heap.size wr w11 := ((Below.refl _ _).alloc (Nat.le_refl _) _).drew.trans (K11.mono (by simp))
          clear e1 e2 r1 r2
          have s11 := K11.size
          replace MIN : Hid (RowIn w11 pg rr) := MIN.out.keep (K11.block _ (MIN.out.lt (by have := HM4.out; omega)))
          have nb2 : w11.cell? ⟨ng, cb, none⟩ = some (.slice (some ⟨bg, 0, none⟩) 4 4) := (K11.cell (p := ⟨ng, cb, none⟩) (by simp; omega)).trans nb1
          replace NIN : Hid (RowIn w11 bg bq) := NIN.out.keep (K11.block _ (NIN.out.lt (by have := HN4.out; omega)))
          clear m1 ya1 nb1
          go_wp2_with fail
          have e1 : (w11.alloc (.cells #[.slice (some ⟨pg, 0, none⟩) 4 4] 25)).drew.cell? ⟨w11.heap.size, 0, none⟩ = some (.slice (some ⟨pg, 0, none⟩) 4 4) := by simp
          have e2 : (w11.alloc (.cells #[.slice (some ⟨pg, 0, none⟩) 4 4] 25)).drew.cell? ⟨ng, cb, none⟩ = some (.slice (some ⟨bg, 0, none⟩) 4 4) := (cell_alloc w11 _ ng cb (by omega)).trans nb2
          have r1 : Hid (RowIn (w11.alloc (.cells #[.slice (some ⟨pg, 0, none⟩) 4 4] 25)).drew pg rr) := MIN.out.keep (Below.heap_alloc _ _ _ (MIN.out.lt (by have := HM4.out; omega)))
          have r2 : Hid (RowIn (w11.alloc (.cells #[.slice (some ⟨pg, 0, none⟩) 4 4] 25)).drew bg bq) := NIN.out.keep (Below.heap_alloc _ _ _ (NIN.out.lt (by have := HN4.out; omega)))
          go_region_held3 (fun w' => w'.cell? ⟨mg, k, none⟩ = some (.slice (some ⟨pg, 0, none⟩) 4 4)) (go_keep)
            (first
              | (go_at_call 14; refine (same_four w11.heap.size 0 ng cb 1 (nc - cb) pg bg rr bq _ e1 e2 HM4.out HN4.out r1.out r2.out).mono ?_; rintro e w12 ⟨rfl, K12⟩; rw [HD2.out]
                 have m1'' : w12.cell? ⟨mg, k, none⟩ = some (.slice (some ⟨pg, 0, none⟩) 4 4) := (K12.cell (p := ⟨mg, k, none⟩) (by simp; omega)).trans ((cell_alloc w11 _ mg k (by omega)).trans m1')))
          replace K12 : Below w11.heap.size w11 w12 := ((Below.refl _ _).alloc (Nat.le_refl _) _).drew.trans (K12.mono (by simp))
          clear e1 e2 r1 r2
          clear m1' m1'' nb2
          go_wp2
          go_roundw
          case rel =>
            refine ⟨k + 1, by omega, by go_num, ?_, ?_, (hB.trans (K11.mono hsr)).trans (K12.mono (by omega))⟩
            · rw [XCA.out, HPV.out]; rfl
            · rw [XCB.out, HPV.out]; rfl
          case measure => simp [intOf]; omega
        · skip
          have HPV : Hid (P rr = false) := hpv
          have ia : decide ((ca : Int) < (Ga.length : Int)) = false := decide_eq_false (by omega)
          obtain ⟨ng, rfl, hng, _, hncl⟩ := HNL.out (by omega)
          have nb1 : wr.cell? ⟨ng, cb, none⟩ = some (.slice (some ⟨Gb[cb].1, 0, none⟩) 4 4) := by rw [hB.cell (p := ⟨ng, cb, none⟩) hng, hncl cb hbu, rval, (HPB.out cb hbu).2]
          have hnb := (Lb10.out.blk Gb[cb] (List.getElem_mem hbu)).2
          have NIN : Hid (RowIn wr Gb[cb].1 Gb[cb].2) := hnb.rowIn.keep (hB.block _ hnb.lt)
          have HN4 : Hid (Gb[cb].2.length = 4) := (HPB.out cb hbu).2
          have HD2 : Hid (decide (rr = Gb[cb].2) = true) := by
            have h := XFB.out hpv
            simp [hbu] at h
            exact decide_eq_true h.symm
          clear hncl hnb
          generalize Gb[cb] = bk at *
          obtain ⟨bg, bq⟩ := bk
          dsimp only at *
          have ib : (cb : Int) < (Gb.length : Int) := by omega
          have ib2 : ¬ nc = cb := by omega
          have ib3 : (0 : Int) ≤ (cb : Int) := by omega
          have ib4 : (cb : Int) ≤ (cb : Int) + 1 := by omega
          have ib5 : (cb : Int) + 1 ≤ (nc : Int) := by omega
          have ib6 : IntKind.i64.wrap ((cb : Int) + 1) = (cb : Int) + 1 := by rw [IntKind.wrap_i64]; omega
          have ib7 : (0 : Int) ≤ (cb : Int) + 1 := by omega
          clear hpv
          go_wp2_with fail
          go_quiet (fail)
          have K11 : Below wr.heap.size wr (wr.drewN nq) := drewN_below wr nq
          have m1' : (wr.drewN nq).cell? ⟨mg, k, none⟩ = some (.slice (some ⟨pg, 0, none⟩) 4 4) := m1
          revert K11 m1'
          generalize wr.drewN nq = w11
          intro K11 m1'
          have s11 := K11.size
          replace MIN : Hid (RowIn w11 pg rr) := MIN.out.keep (K11.block _ (MIN.out.lt (by have := HM4.out; omega)))
          have nb2 : w11.cell? ⟨ng, cb, none⟩ = some (.slice (some ⟨bg, 0, none⟩) 4 4) := (K11.cell (p := ⟨ng, cb, none⟩) (by simp; omega)).trans nb1
          replace NIN : Hid (RowIn w11 bg bq) := NIN.out.keep (K11.block _ (NIN.out.lt (by have := HN4.out; omega)))
          clear m1 nb1
          go_wp2_with fail
          have e1 : (w11.alloc (.cells #[.slice (some ⟨pg, 0, none⟩) 4 4] 25)).drew.cell? ⟨w11.heap.size, 0, none⟩ = some (.slice (some ⟨pg, 0, none⟩) 4 4) := by simp
          have e2 : (w11.alloc (.cells #[.slice (some ⟨pg, 0, none⟩) 4 4] 25)).drew.cell? ⟨ng, cb, none⟩ = some (.slice (some ⟨bg, 0, none⟩) 4 4) := (cell_alloc w11 _ ng cb (by omega)).trans nb2
          have r1 : Hid (RowIn (w11.alloc (.cells #[.slice (some ⟨pg, 0, none⟩) 4 4] 25)).drew pg rr) := MIN.out.keep (Below.heap_alloc _ _ _ (MIN.out.lt (by have := HM4.out; omega)))
          have r2 : Hid (RowIn (w11.alloc (.cells #[.slice (some ⟨pg, 0, none⟩) 4 4] 25)).drew bg bq) := NIN.out.keep (Below.heap_alloc _ _ _ (NIN.out.lt (by have := HN4.out; omega)))
          go_region_held3 (fun w' => w'.cell? ⟨mg, k, none⟩ = some (.slice (some ⟨pg, 0, none⟩) 4 4)) (go_keep)
            (first
              | (go_at_call 14; refine (same_four w11.heap.size 0 ng cb 1 (nc - cb) pg bg rr bq _ e1 e2 HM4.out HN4.out r1.out r2.out).mono ?_; rintro e w12 ⟨rfl, K12⟩; rw [HD2.out]
                 have m1'' : w12.cell? ⟨mg, k, none⟩ = some (.slice (some ⟨pg, 0, none⟩) 4 4) := (K12.cell (p := ⟨mg, k, none⟩) (by simp; omega)).trans ((cell_alloc w11 _ mg k (by omega)).trans m1')))
          replace K12 : Below w11.heap.size w11 w12 := ((Below.refl _ _).alloc (Nat.le_refl _) _).drew.trans (K12.mono (by simp))
          clear e1 e2 r1 r2
          clear m1' m1'' nb2
          go_wp2
          go_roundw
          case rel =>
            refine ⟨k + 1, by omega, by go_num, ?_, ?_, (hB.trans (K11.mono hsr)).trans (K12.mono (by omega))⟩
            · rw [XCA.out, HPV.out]; rfl
            · rw [XCB.out, HPV.out]; rfl
          case measure => simp [intOf]; omega
      · have hau : ca < Ga.length := by
          have h := (List.getElem?_eq_some_iff.1 (XFA.out hpv)).1
          simpa using h
        by_cases hbu : cb < Gb.length
        · skip
          have HPV : Hid (P rr = true) := hpv
          obtain ⟨yg, rfl, hyg, _, hycl⟩ := HYL.out (by omega)
          have ya1 : wr.cell? ⟨yg, ca, none⟩ = some (.slice (some ⟨Ga[ca].1, 0, none⟩) 4 4) := by rw [hB.cell (p := ⟨yg, ca, none⟩) hyg, hycl ca hau, rval, (HPA.out ca hau).2]
          have hyb := (La10.out.blk Ga[ca] (List.getElem_mem hau)).2
          have YIN : Hid (RowIn wr Ga[ca].1 Ga[ca].2) := hyb.rowIn.keep (hB.block _ hyb.lt)
          have HY4 : Hid (Ga[ca].2.length = 4) := (HPA.out ca hau).2
          have HD1 : Hid (decide (rr = Ga[ca].2) = true) := by
            have h := XFA.out hpv
            simp [hau] at h
            exact decide_eq_true h.symm
          clear hycl hyb
          generalize Ga[ca] = ak at *
          obtain ⟨ag, aq⟩ := ak
          dsimp only at *
          have ia : (ca : Int) < (Ga.length : Int) := by omega
          have ia2 : ¬ yc = ca := by omega
          have ia3 : (0 : Int) ≤ (ca : Int) := by omega
          have ia4 : (ca : Int) ≤ (ca : Int) + 1 := by omega
          have ia5 : (ca : Int) + 1 ≤ (yc : Int) := by omega
          have ia6 : IntKind.i64.wrap ((ca : Int) + 1) = (ca : Int) + 1 := by rw [IntKind.wrap_i64]; omega
          have ia7 : (0 : Int) ≤ (ca : Int) + 1 := by omega
          obtain ⟨ng, rfl, hng, _, hncl⟩ := HNL.out (by omega)
          have nb1 : wr.cell? ⟨ng, cb, none⟩ = some (.slice (some ⟨Gb[cb].1, 0, none⟩) 4 4) := by rw [hB.cell (p := ⟨ng, cb, none⟩) hng, hncl cb hbu, rval, (HPB.out cb hbu).2]
          have hnb := (Lb10.out.blk Gb[cb] (List.getElem_mem hbu)).2
          have NIN : Hid (RowIn wr Gb[cb].1 Gb[cb].2) := hnb.rowIn.keep (hB.block _ hnb.lt)
          have HN4 : Hid (Gb[cb].2.length = 4) := (HPB.out cb hbu).2
          have HD2 : Hid (decide (rr = Gb[cb].2) = false) := decide_eq_false (fun e => by have h := (HPB.out cb hbu).1; rw [← e, hpv] at h; cases h)
          clear hncl hnb
          generalize Gb[cb] = bk at *
          obtain ⟨bg, bq⟩ := bk
          dsimp only at *
          have ib : (cb : Int) < (Gb.length : Int) := by omega
          have ib2 : ¬ nc = cb := by omega
          have ib3 : (0 : Int) ≤ (cb : Int) := by omega
          have ib4 : (cb : Int) ≤ (cb : Int) + 1 := by omega
          have ib5 : (cb : Int) + 1 ≤ (nc : Int) := by omega
          have ib6 : IntKind.i64.wrap ((cb : Int) + 1) = (cb : Int) + 1 := by rw [IntKind.wrap_i64]; omega
          have ib7 : (0 : Int) ≤ (cb : Int) + 1 := by omega
          clear hpv
          go_wp2_with fail
          have e1 : (wr.alloc (.cells #[.slice (some ⟨pg, 0, none⟩) 4 4] 25)).drew.cell? ⟨wr.heap.size, 0, none⟩ = some (.slice (some ⟨pg, 0, none⟩) 4 4) := by simp
          have e2 : (wr.alloc (.cells #[.slice (some ⟨pg, 0, none⟩) 4 4] 25)).drew.cell? ⟨yg, ca, none⟩ = some (.slice (some ⟨ag, 0, none⟩) 4 4) := (cell_alloc wr _ yg ca (by omega)).trans ya1
          have r1 : Hid (RowIn (wr.alloc (.cells #[.slice (some ⟨pg, 0, none⟩) 4 4] 25)).drew pg rr) := MIN.out.keep (Below.heap_alloc _ _ _ (MIN.out.lt (by have := HM4.out; omega)))
          have r2 : Hid (RowIn (wr.alloc (.cells #[.slice (some ⟨pg, 0, none⟩) 4 4] 25)).drew ag aq) := YIN.out.keep (Below.heap_alloc _ _ _ (YIN.out.lt (by have := HY4.out; omega)))
          go_region_held3 (fun w' => w'.cell? ⟨mg, k, none⟩ = some (.slice (some ⟨pg, 0, none⟩) 4 4)) (go_keep)
            (first
              | (go_at_call 14; refine (same_four wr.heap.size 0 yg ca 1 (yc - ca) pg ag rr aq _ e1 e2 HM4.out HY4.out r1.out r2.out).mono ?_; rintro e w11 ⟨rfl, K11⟩; rw [HD1.out]
                 have m1' : w11.cell? ⟨mg, k, none⟩ = some (.slice (some ⟨pg, 0, none⟩) 4 4) := (K11.cell (p := ⟨mg, k, none⟩) (by simp; omega)).trans ((cell_alloc wr _ mg k (by omega)).trans m1)))
          replace K11 : Below wr.heap.size wr w11 := ((Below.refl _ _).alloc (Nat.le_refl _) _).drew.trans (K11.mono (by simp))
          clear e1 e2 r1 r2
          have s11 := K11.size
          replace MIN : Hid (RowIn w11 pg rr) := MIN.out.keep (K11.block _ (MIN.out.lt (by have := HM4.out; omega)))
          have nb2 : w11.cell? ⟨ng, cb, none⟩ = some (.slice (some ⟨bg, 0, none⟩) 4 4) := (K11.cell (p := ⟨ng, cb, none⟩) (by simp; omega)).trans nb1
          replace NIN : Hid (RowIn w11 bg bq) := NIN.out.keep (K11.block _ (NIN.out.lt (by have := HN4.out; omega)))
          clear m1 ya1 nb1
          go_wp2_with fail
          have e1 : (w11.alloc (.cells #[.slice (some ⟨pg, 0, none⟩) 4 4] 25)).drew.cell? ⟨w11.heap.size, 0, none⟩ = some (.slice (some ⟨pg, 0, none⟩) 4 4) := by simp
          have e2 : (w11.alloc (.cells #[.slice (some ⟨pg, 0, none⟩) 4 4] 25)).drew.cell? ⟨ng, cb, none⟩ = some (.slice (some ⟨bg, 0, none⟩) 4 4) := (cell_alloc w11 _ ng cb (by omega)).trans nb2
          have r1 : Hid (RowIn (w11.alloc (.cells #[.slice (some ⟨pg, 0, none⟩) 4 4] 25)).drew pg rr) := MIN.out.keep (Below.heap_alloc _ _ _ (MIN.out.lt (by have := HM4.out; omega)))
          have r2 : Hid (RowIn (w11.alloc (.cells #[.slice (some ⟨pg, 0, none⟩) 4 4] 25)).drew bg bq) := NIN.out.keep (Below.heap_alloc _ _ _ (NIN.out.lt (by have := HN4.out; omega)))
          go_region_held3 (fun w' => w'.cell? ⟨mg, k, none⟩ = some (.slice (some ⟨pg, 0, none⟩) 4 4)) (go_keep)
            (first
              | (go_at_call 14; refine (same_four w11.heap.size 0 ng cb 1 (nc - cb) pg bg rr bq _ e1 e2 HM4.out HN4.out r1.out r2.out).mono ?_; rintro e w12 ⟨rfl, K12⟩; rw [HD2.out]
                 have m1'' : w12.cell? ⟨mg, k, none⟩ = some (.slice (some ⟨pg, 0, none⟩) 4 4) := (K12.cell (p := ⟨mg, k, none⟩) (by simp; omega)).trans ((cell_alloc w11 _ mg k (by omega)).trans m1')))
          replace K12 : Below w11.heap.size w11 w12 := ((Below.refl _ _).alloc (Nat.le_refl _) _).drew.trans (K12.mono (by simp))
          clear e1 e2 r1 r2
          clear m1' m1'' nb2
          go_wp2
          go_roundw
          case rel =>
            refine ⟨k + 1, by omega, by go_num, ?_, ?_, (hB.trans (K11.mono hsr)).trans (K12.mono (by omega))⟩
            · rw [XCA.out, HPV.out]; rfl
            · rw [XCB.out, HPV.out]; rfl
          case measure => simp [intOf]; omega
        · skip
          have HPV : Hid (P rr = true) := hpv
          obtain ⟨yg, rfl, hyg, _, hycl⟩ := HYL.out (by omega)
          have ya1 : wr.cell? ⟨yg, ca, none⟩ = some (.slice (some ⟨Ga[ca].1, 0, none⟩) 4 4) := by rw [hB.cell (p := ⟨yg, ca, none⟩) hyg, hycl ca hau, rval, (HPA.out ca hau).2]
          have hyb := (La10.out.blk Ga[ca] (List.getElem_mem hau)).2
          have YIN : Hid (RowIn wr Ga[ca].1 Ga[ca].2) := hyb.rowIn.keep (hB.block _ hyb.lt)
          have HY4 : Hid (Ga[ca].2.length = 4) := (HPA.out ca hau).2
          have HD1 : Hid (decide (rr = Ga[ca].2) = true) := by
            have h := XFA.out hpv
            simp [hau] at h
            exact decide_eq_true h.symm
          clear hycl hyb
          generalize Ga[ca] = ak at *
          obtain ⟨ag, aq⟩ := ak
          dsimp only at *
          have ia : (ca : Int) < (Ga.length : Int) := by omega
          have ia2 : ¬ yc = ca := by omega
          have ia3 : (0 : Int) ≤ (ca : Int) := by omega
          have ia4 : (ca : Int) ≤ (ca : Int) + 1 := by omega
          have ia5 : (ca : Int) + 1 ≤ (yc : Int) := by omega
          have ia6 : IntKind.i64.wrap ((ca : Int) + 1) = (ca : Int) + 1 := by rw [IntKind.wrap_i64]; omega
          have ia7 : (0 : Int) ≤ (ca : Int) + 1 := by omega
          have ib : decide ((cb : Int) < (Gb.length : Int)) = false := decide_eq_false (by omega)
          clear hpv
          go_wp2_with fail
          have e1 : (wr.alloc (.cells #[.slice (some ⟨pg, 0, none⟩) 4 4] 25)).drew.cell? ⟨wr.heap.size, 0, none⟩ = some (.slice (some ⟨pg, 0, none⟩) 4 4) := by simp
          have e2 : (wr.alloc (.cells #[.slice (some ⟨pg, 0, none⟩) 4 4] 25)).drew.cell? ⟨yg, ca, none⟩ = some (.slice (some ⟨ag, 0, none⟩) 4 4) := (cell_alloc wr _ yg ca (by omega)).trans ya1
          have r1 : Hid (RowIn (wr.alloc (.cells #[.slice (some ⟨pg, 0, none⟩) 4 4] 25)).drew pg rr) := MIN.out.keep (Below.heap_alloc _ _ _ (MIN.out.lt (by have := HM4.out; omega)))
          have r2 : Hid (RowIn (wr.alloc (.cells #[.slice (some ⟨pg, 0, none⟩) 4 4] 25)).drew ag aq) := YIN.out.keep (Below.heap_alloc _ _ _ (YIN.out.lt (by have := HY4.out; omega)))
          go_region_held3 (fun w' => w'.cell? ⟨mg, k, none⟩ = some (.slice (some ⟨pg, 0, none⟩) 4 4)) (go_keep)
            (first
              | (go_at_call 14; refine (same_four wr.heap.size 0 yg ca 1 (yc - ca) pg ag rr aq _ e1 e2 HM4.out HY4.out r1.out r2.out).mono ?_; rintro e w11 ⟨rfl, K11⟩; rw [HD1.out]
                 have m1' : w11.cell? ⟨mg, k, none⟩ = some (.slice (some ⟨pg, 0, none⟩) 4 4) := (K11.cell (p := ⟨mg, k, none⟩) (by simp; omega)).trans ((cell_alloc wr _ mg k (by omega)).trans m1)))
          replace K11 : Below wr.heap.size wr w11 := ((Below.refl _ _).alloc (Nat.le_refl _) _).drew.trans (K11.mono (by simp))
          clear e1 e2 r1 r2
          have s11 := K11.size
          replace MIN : Hid (RowIn w11 pg rr) := MIN.out.keep (K11.block _ (MIN.out.lt (by have := HM4.out; omega)))
          clear m1 ya1
          go_wp2_with fail
          go_quiet (fail)
          have K12 : Below w11.heap.size w11 (w11.drewN nq) := drewN_below w11 nq
          have m1'' : (w11.drewN nq).cell? ⟨mg, k, none⟩ = some (.slice (some ⟨pg, 0, none⟩) 4 4) := m1'
          revert K12 m1''
          generalize w11.drewN nq = w12
          intro K12 m1''
          clear m1' m1''
          go_wp2
          go_roundw
          case rel =>
            refine ⟨k + 1, by omega, by go_num, ?_, ?_, (hB.trans (K11.mono hsr)).trans (K12.mono (by omega))⟩
            · rw [XCA.out, HPV.out]; rfl
            · rw [XCB.out, HPV.out]; rfl
          case measure => simp [intOf]; omega
    · have hke : k = M.length := by omega
      clear hk hlt hca hcb
      subst hke
      have PBr : wr.heap[w3.heap.size]? = some (.cells #[.int .i64 p.dO, .int .i64 p.col, .int .i64 p.n, .string p.s] 32 (0, 0)) := (hB.block _ (by omega)).trans PB10.out
      have p0 : wr.cell? ⟨w3.heap.size, 0, none⟩ = some (.int .i64 p.dO) := by rw [cell_of_row _ _ _ _ _ _ PBr]; rfl
      have p1 : wr.cell? ⟨w3.heap.size, 1, none⟩ = some (.int .i64 p.col) := by rw [cell_of_row _ _ _ _ _ _ PBr]; rfl
      have p2 : wr.cell? ⟨w3.heap.size, 2, none⟩ = some (.int .i64 p.n) := by rw [cell_of_row _ _ _ _ _ _ PBr]; rfl
      have p3 : wr.cell? ⟨w3.heap.size, 3, none⟩ = some (.string p.s) := by rw [cell_of_row _ _ _ _ _ _ PBr]; rfl
      clear PBr
      have KA : Below w10.heap.size w10 (wr.alloc (.cells #[.int .i64 p.dO, .int .i64 p.col, .int .i64 p.n, .string p.s] 32)) := hB.alloc hsr _
      have TD : Hid (TableAt (wr.alloc (.cells #[.int .i64 p.dO, .int .i64 p.col, .int .i64 p.n, .string p.s] 32)) (w1.heap.size + 1) bt bs [1, 2, 3, 4] L sv fv) := T10.out.below KA
      have HDN : Hid ((L.filter (fun z => passB [1, 2, 3, 4] z.2 [p])).length = Ga.length) := by
        have h1 := congrArg List.length FA.out
        rw [List.length_map, ← HLE.out, List.filter_map, List.length_map] at h1
        unfold Hid
        rw [h1, HPD.out]; rfl
      go_wp2_with fail
      refine (delete_ok (w1.heap.size + 1) bt bs [1, 2, 3, 4] L sv fv 1 (some ⟨wr.heap.size, 0, none⟩) [p] _ TD.out (by omega) (by decide) (fun z hz => (HLR.out z hz).1) (.inr ⟨_, rfl, tests_t wr p⟩) (valid_t gp.out)).mono ?_
      rintro e w13 ⟨fv', rfl, hT13, ho13, hF13⟩
      rw [HDN.out]
      have s13 := hF13.size
      simp at s13
      have T13 : Hid (TableAt w13 (w1.heap.size + 1) bt bs [1, 2, 3, 4] (L.filter (fun z => !passB [1, 2, 3, 4] z.2 [p])) sv fv') := hT13
      have B13 : Below w.heap.size w w13 := (B10.trans (KA.mono (by have := B10.size; omega))).trans ((Fr.tableBelow TD.out hF13 (by simp; omega)).mono (by omega))
      have N13 : Hid (RowsAt w13 (w6.heap.size + 1) (.slice na Gb.length nc) Gb) := (Lb10.out.keepOn (fun j hj _ => KA.block j hj)).keepOn (fun j hj hx => hF13.block j hj (by
        have hT10 := T10.out
        have hbs : bs < w5.heap.size := (Array.getElem?_eq_some_iff.1 TS5.out.sto.blk).1
        have hge : w6.heap.size + 1 ≤ j := by
          rcases hx with hx | ⟨z, hz, hx⟩
          · exact (Lb10.out.own.lt j hx).1
          · rw [← hx]; exact (Lb10.out.blk z hz).1
        intro hm
        rcases List.mem_cons.1 hm with e | e
        · omega
        · have e' : fv.ownBlock = some j := by simpa using e
          have := (TS5.out.sto.rows.own.lt j e').2
          omega))
      clear hT13 ho13 p0 p1 p2 p3 TD
      have hLl2 : (L.filter (fun z => !passB [1, 2, 3, 4] z.2 [p])).length ≤ 300 := Nat.le_trans (List.length_filter_le _ _) hLl
      go_wp2_with fail
      refine (scan_ok (w1.heap.size + 1) bt bs [1, 2, 3, 4] (L.filter (fun z => !passB [1, 2, 3, 4] z.2 [p])) sv fv' 0 none [] w13 T13.out (by omega) (by decide) (by decide) (fun z hz => HLR.out z (List.mem_filter.1 hz).1) (.inl rfl) (valid_nil _)).mono ?_
      rintro e w14 ⟨vl, Gl, rfl, hG, hGe, hb14, _⟩
      have N14 : RowsAt w14 (w6.heap.size + 1) (.slice na Gb.length nc) Gb := N13.out.keepOn (fun j hj _ => hb14.block j hj)
      have HEQ : Hid (Gl.map Prod.snd = Gb.map Prod.snd) := by
        unfold Hid
        rw [hGe, FB.out, ← HLE.out, HPD.out, List.filter_map, List.filter_map, List.filter_filter]
        congr 1
      obtain ⟨la', lc', hle, hlin⟩ := hG.rowsIn
      subst hle
      obtain ⟨na', nc', hne, hnin⟩ := N14.rowsIn
      simp only [Value.slice.injEq, true_and] at hne
      obtain ⟨rfl, rfl⟩ := hne
      have HLI : Hid (RowsIn w14 la' Gl) := hlin
      have HNI : Hid (RowsIn w14 na Gb) := hnin
      have hGl : Gl.length ≤ 300 := by have := congrArg List.length HEQ.out; simp at this; omega
      have HG4 : Hid (∀ z ∈ Gl, z.2.length ≤ 100000) := fun z hz => by
        have h1 : z.2 ∈ Gb.map Prod.snd := by rw [← HEQ.out]; exact List.mem_map_of_mem hz
        obtain ⟨z', hz', e⟩ := List.mem_map.1 h1
        obtain ⟨j, hj, e2⟩ := List.mem_iff_getElem.1 hz'
        rw [← e, ← e2, (HPB.out j hj).2]; omega
      have B14 := B13.trans (hb14.mono (by have := B13.size; omega))
      clear hG hGe hlin hnin N14 hb14
      have k6 : ((Ga.length : Int) == (Ga.length : Int)) = true := by simp
      go_wp2_with fail
      refine (same_eq la' na lc' nc Gl Gb w14 HLI.out HNI.out HEQ.out (by omega) HG4.out).mono ?_
      rintro e w15 ⟨rfl, q15, rfl⟩
      go_wp2
      go_ret
      exact ⟨rfl, B14.trans ((drewN_below w14 q15).mono (by have := B14.size; omega))⟩

end Go.Proofs.YtcconhgbefhdeaaDoor
