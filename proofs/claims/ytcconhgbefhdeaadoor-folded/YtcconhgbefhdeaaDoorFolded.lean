import Derived.Test.YtcconhgbefhdeaaDoorFoldMath
namespace Go.Proofs.YtcconhgbefhdeaaDoor
open Go.RowKit

set_option maxRecDepth 100000 in
theorem eql_pair (v m : Int × ByteArray) (w : World) : (binOp .eql 30 (.agg #[.int .i64 v.1, .string v.2]) (.agg #[.int .i64 m.1, .string m.2])).run Tryd.prog w = .ok (.bool (decide (v = m))) w := by
  by_cases h : v = m
  · subst h
    go_simp
  · obtain ⟨vn, vs⟩ := v
    obtain ⟨mn, ms⟩ := m
    rw [decide_eq_false h]
    rcases pair_ne h with h1 | ⟨h1, h2⟩
    · simp only at h1
      go_simp
    · simp only at h1 h2
      subst h1
      have h3 := bytes_ne h2
      go_simp

theorem map_col (G : List (Nat × List (Int × ByteArray))) (c : Nat) : (G.map Prod.snd).map (fun r => r.getD c (0, .empty)) = G.map (fun (z : Nat × List (Int × ByteArray)) => z.2.getD c (0, .empty)) := by simp

set_option maxRecDepth 100000 in
set_option maxHeartbeats 4000000 in
theorem folded_ok (la ua : Option Addr) (lc uc : Nat) (R : List Raw) (U : List Int) (d c wh : Int) (x : Raw) (hd : in64 d) (hc : in64 c) (hwh : in64 wh) (hx : x.ok) (w : World) (hl : Lent w la ua R U) :
    Calls Tryd.prog 7 #[.slice la R.length lc, .slice ua U.length uc, .int .i64 d, .int .i64 c, .agg #[.int .i64 x.n, .int .i64 x.bits, .string x.s, .int .i64 x.flag], .int .i64 wh] w fun e w' => e = .returned (.bool true) ∧ Below w.heap.size w w' := by
  obtain ⟨p, hp⟩ : ∃ p, rawTest d c x = p := ⟨_, rfl⟩
  have gp : Hid (goodT [1, 2, 3, 4] p) := by unfold Hid; rw [← hp]; exact rawTest_good d c x
  have HPE : Hid (rawTest d c x = p) := hp
  clear hp
  have HL : Hid (Lent w la ua R U) := hl
  have rl := hl.rl
  have ul := hl.ul
  have xf1 := hx.2.2.1
  have xf2 := hx.2.2.2
  clear hl hx
  go_enter Tryd.func7, Tryd.ntmps7
  go_wp2_with fail
  refine (known_ok _).mono ?_
  rintro e w1 ⟨rfl, hb1⟩
  have s1 := hb1.size
  simp at s1
  have B1 : Below w.heap.size w w1 := ((Below.refl _ _).alloc (Nat.le_refl _) _).trans (hb1.mono (by simp))
  have XB1 : Hid (w1.heap[w.heap.size]? = some (.cells #[.int .i64 x.n, .int .i64 x.bits, .string x.s, .int .i64 x.flag] 36 (0, 0))) := (hb1.block _ (by simp)).trans (heap_alloc_new w _)
  clear hb1
  go_wp2_with fail
  refine (table_ok la ua lc uc R U w1 (HL.out.keep B1)).mono ?_
  rintro e w2 ⟨bt, v, rfl, bs, sv, fv, L, M, hT, hM, hLe, hMe, hb2⟩
  have s2 := hb2.size
  have B2 : Below w.heap.size w w2 := B1.trans (hb2.mono (by omega))
  have XB2 : Hid (w2.heap[w.heap.size]? = some (.cells #[.int .i64 x.n, .int .i64 x.bits, .string x.s, .int .i64 x.flag] 36 (0, 0))) := (hb2.block _ (by omega)).trans XB1.out
  have x0 : w2.cell? ⟨w.heap.size, 0, none⟩ = some (.int .i64 x.n) := by rw [cell_of_row _ _ _ _ _ _ XB2.out]; rfl
  have x1 : w2.cell? ⟨w.heap.size, 1, none⟩ = some (.int .i64 x.bits) := by rw [cell_of_row _ _ _ _ _ _ XB2.out]; rfl
  have x2 : w2.cell? ⟨w.heap.size, 2, none⟩ = some (.string x.s) := by rw [cell_of_row _ _ _ _ _ _ XB2.out]; rfl
  have x3 : w2.cell? ⟨w.heap.size, 3, none⟩ = some (.int .i64 x.flag) := by rw [cell_of_row _ _ _ _ _ _ XB2.out]; rfl
  have T2 : Hid (TableAt w2 (w1.heap.size + 1) bt bs [1, 2, 3, 4] L sv fv) := hT
  have HLE : Hid (L.map Prod.snd = firsts R) := hLe
  clear hT hM hLe hMe hb2 XB1
  go_wp2_with fail
  refine (test_ok d c x w2 hd.1 hd.2 hc.1 hc.2 xf1 xf2).mono ?_
  rintro e w3 ⟨rfl, hb3⟩
  rw [HPE.out]
  have s3 := hb3.size
  have B3 : Below w.heap.size w w3 := B2.trans (hb3.mono (by omega))
  have T4 : Hid (TableAt (w3.alloc (.cells #[.int .i64 p.dO, .int .i64 p.col, .int .i64 p.n, .string p.s] 32)) (w1.heap.size + 1) bt bs [1, 2, 3, 4] L sv fv) := (T2.out.below hb3).below ((Below.refl _ _).alloc (Nat.le_refl _) _)
  have B4 : Below w.heap.size w (w3.alloc (.cells #[.int .i64 p.dO, .int .i64 p.col, .int .i64 p.n, .string p.s] 32)) := B3.alloc (by omega) _
  have I4 : Hid (TestsAt (w3.alloc (.cells #[.int .i64 p.dO, .int .i64 p.col, .int .i64 p.n, .string p.s] 32)) (some ⟨w3.heap.size, 0, none⟩) [p]) := .inr ⟨_, rfl, tests_t w3 p⟩
  have hLl : L.length ≤ 300 := by
    have := congrArg List.length HLE.out
    unfold firsts at this
    simp at this
    omega
  have HLR : Hid (∀ p ∈ L, p.2.length = ([1, 2, 3, 4] : List Int).length ∧ ∀ z ∈ p.2, z.2.size ≤ 1000000) := fun p hp => by
    have : p.2 ∈ firsts R := by rw [← HLE.out]; exact List.mem_map_of_mem hp
    unfold firsts at this
    obtain ⟨y, _, e⟩ := List.mem_map.1 this
    rw [← e]
    exact ⟨(raw_fits y).2.2, (raw_fits y).2.1⟩
  clear hb3 x0 x1 x2 x3 XB2 T2
  go_wp2_with fail
  revert T4 B4 I4
  generalize w3.alloc (.cells #[.int .i64 p.dO, .int .i64 p.col, .int .i64 p.n, .string p.s] 32) = w4
  intro T4 B4 I4
  refine (scan_ok (w1.heap.size + 1) bt bs [1, 2, 3, 4] L sv fv 1 (some ⟨w3.heap.size, 0, none⟩) [p] w4 T4.out (by omega) (by decide) (by decide) HLR.out I4.out (valid_t gp.out)).mono ?_
  rintro e w5 ⟨vg, G, rfl, hG, hGe, hb5, _⟩
  have s5 := hb5.size
  have T5 : Hid (TableAt w5 (w1.heap.size + 1) bt bs [1, 2, 3, 4] L sv fv) := T4.out.below hb5
  have I5 : Hid (TestsAt w5 (some ⟨w3.heap.size, 0, none⟩) [p]) := I4.out.keep (fun j hj => hb5.block j hj)
  have B5 : Below w.heap.size w w5 := B4.trans (hb5.mono B4.size)
  have HGE : Hid (G.map Prod.snd = (L.map Prod.snd).filter (fun r => passB [1, 2, 3, 4] r [p])) := hGe
  have G5 : Hid (RowsAt w5 w4.heap.size vg G) := hG
  obtain ⟨ga, gc, hgv, _, hgl⟩ := hG.lie
  have HGL : Hid (0 < G.length → ∃ g, ga = some ⟨g, 0, none⟩ ∧ g < w5.heap.size ∧ w4.heap.size ≤ g ∧ ∀ k (hk : k < G.length), w5.cell? ⟨g, k, none⟩ = some (rval G[k])) := hgl
  have HROW : Hid (∀ z ∈ G, ∃ y : Raw, y.ok ∧ z.2 = y.row) := fun z hz => by
    have h1 : z.2 ∈ G.map Prod.snd := List.mem_map_of_mem hz
    rw [hGe] at h1
    have h2 := (List.mem_filter.1 h1).1
    rw [HLE.out] at h2
    unfold firsts at h2
    obtain ⟨y, hy, e⟩ := List.mem_map.1 h2
    exact ⟨y, HL.out.rok y (List.mem_of_mem_take hy), e.symm⟩
  have hGl : G.length ≤ 300 := by
    have h1 := congrArg List.length hGe
    have h2 := List.length_filter_le (fun r => passB [1, 2, 3, 4] r [p]) (L.map Prod.snd)
    simp only [List.length_map] at h1 h2
    omega
  have HLN : Hid (((L.map Prod.snd).filter (fun r => passB [1, 2, 3, 4] r [p])).length = G.length) := by unfold Hid; rw [← hGe, List.length_map]
  have HV : Hid (∀ cc, ((L.map Prod.snd).filter (fun r => passB [1, 2, 3, 4] r [p])).map (fun r => r.getD cc (0, .empty)) = G.map (fun (z : Nat × List (Int × ByteArray)) => z.2.getD cc (0, .empty))) := fun cc => by rw [← hGe]; exact map_col G cc
  have HSUM : Hid (foldAll 1 (G.map (fun (z : Nat × List (Int × ByteArray)) => z.2.getD 0 (0, .empty))) = (sumW (G.map (fun (z : Nat × List (Int × ByteArray)) => z.2.getD 0 (0, .empty))), ⟨#[]⟩)) := by
    refine sum_all _ (fun u hu => ?_) (fun u hu => ?_)
    · obtain ⟨z, hz, rfl⟩ := List.mem_map.1 hu
      obtain ⟨y, _, e⟩ := HROW.out z hz
      rw [e]; rfl
    · obtain ⟨z, hz, rfl⟩ := List.mem_map.1 hu
      obtain ⟨y, hy, e⟩ := HROW.out z hz
      rw [e]; exact hy.1
  clear hG hGe hgl T4 B4 I4 hb5
  subst hgv
  have F0 := fold_ok (w1.heap.size + 1) bt bs [1, 2, 3, 4] L sv fv 1 (some ⟨w3.heap.size, 0, none⟩) [p] 0 1 w5 T5.out (by omega) (by decide) (fun z hz => (HLR.out z hz).1) I5.out (valid_t gp.out) (by decide) (.inl rfl) (fun _ => rfl) (by decide)
  rw [HV.out, HSUM.out, HLN.out] at F0
  dsimp only at F0
  have FF0 : Hid (Calls Tryd.prog 17 #[.pointer (some ⟨bt, 0, none⟩), .slice (some ⟨w3.heap.size, 0, none⟩) 1 1, .int .i64 0, .int .i64 1] w5 fun e w' => e = .returned (.tuple #[.agg #[.int .i64 (sumW (G.map (fun (z : Nat × List (Int × ByteArray)) => z.2.getD 0 (0, .empty)))), .string ⟨#[]⟩], .int .i64 G.length, .nilIface]) ∧ Below w5.heap.size w5 w') := F0
  clear F0
  go_wp2_with fail
  refine FF0.out.mono ?_
  rintro e w6 ⟨rfl, hb6⟩
  have s6 := hb6.size
  obtain ⟨sm, hsm⟩ : ∃ sm, sumW (G.map (fun (z : Nat × List (Int × ByteArray)) => z.2.getD 0 (0, .empty))) = sm := ⟨_, rfl⟩
  rw [hsm]
  have HSM : Hid (sumW (G.map (fun (z : Nat × List (Int × ByteArray)) => z.2.getD 0 (0, .empty))) = sm) := hsm
  have K7 : Below w5.heap.size w5 (w6.alloc (.cells #[.int .i64 sm, .string ⟨#[]⟩] 30)) := hb6.alloc s6 _
  have Z7 : Hid ((w6.alloc (.cells #[.int .i64 sm, .string ⟨#[]⟩] 30)).heap[w6.heap.size]? = some (.cells #[.int .i64 sm, .string ⟨#[]⟩] 30 (0, 0))) := heap_alloc_new w6 _
  clear hsm FF0 hb6 HSUM
  go_wp2_with fail
  revert K7 Z7
  generalize w6.alloc (.cells #[.int .i64 sm, .string ⟨#[]⟩] 30) = w7
  intro K7 Z7
  have s7 := K7.size
  have hz7 : w6.heap.size < w7.heap.size := (Array.getElem?_eq_some_iff.1 Z7.out).1
  have B7 : Below w.heap.size w w7 := B5.trans (K7.mono B5.size)
  have T7 : Hid (TableAt w7 (w1.heap.size + 1) bt bs [1, 2, 3, 4] L sv fv) := T5.out.below K7
  have I7 : Hid (TestsAt w7 (some ⟨w3.heap.size, 0, none⟩) [p]) := I5.out.keep (fun j hj => K7.block j hj)
  have G7 : Hid (RowsAt w7 w4.heap.size (.slice ga G.length gc) G) := G5.out.keepOn (fun j hj _ => K7.block j hj)
  have HGC : Hid (0 < G.length → ∃ g, ga = some ⟨g, 0, none⟩ ∧ g < w7.heap.size ∧ ∀ k (hk : k < G.length), w7.cell? ⟨g, k, none⟩ = some (.slice (some ⟨G[k].1, 0, none⟩) 4 4)) := fun h => by
    obtain ⟨g, h1, h2, _, h4⟩ := HGL.out h
    refine ⟨g, h1, by omega, fun k hk => ?_⟩
    obtain ⟨y, _, e⟩ := HROW.out G[k] (List.getElem_mem hk)
    rw [K7.cell (p := ⟨g, k, none⟩) h2, h4 k hk, rval, e]
    rfl
  have HG4 : Hid (∀ k (hk : k < G.length), G[k].2.length = 4) := fun k hk => by
    obtain ⟨y, _, e⟩ := HROW.out G[k] (List.getElem_mem hk)
    rw [e]; exact (raw_fits y).2.2
  clear T5 I5 G5 HGL B5
  go_loopw [23, 24] (fun al i wr => ∃ k : Nat, k ≤ G.length ∧ i = .int .i64 k ∧ al = .int .i64 (sumW ((G.map (fun (z : Nat × List (Int × ByteArray)) => z.2.getD 0 (0, .empty))).take k)) ∧ w7 = wr) (fun _ i _ => G.length - (intOf i).toNat)
  case atStart => exact ⟨0, Nat.zero_le _, rfl, rfl, rfl⟩
  case round =>
    obtain ⟨k, hk, rfl, rfl, rfl⟩ := hrel
    by_cases hlt : k < G.length
    · obtain ⟨gg, rfl, hgg, hgc⟩ := HGC.out (by omega)
      have m1 := hgc k hlt
      have hrow := (G7.out.blk G[k] (List.getElem_mem hlt)).2.rowIn
      have h4 := HG4.out k hlt
      have h04 : 0 < G[k].2.length := by omega
      obtain ⟨y1, _⟩ := hrow 0 h04
      have HSN : Hid (sumW ((G.map (fun (z : Nat × List (Int × ByteArray)) => z.2.getD 0 (0, .empty))).take (k + 1)) = wrap64 (sumW ((G.map (fun (z : Nat × List (Int × ByteArray)) => z.2.getD 0 (0, .empty))).take k) + (G[k].2[0]'h04).1)) := by
        unfold Hid
        rw [List.take_succ_eq_append_getElem (by simpa using hlt), sumW_snoc]
        simp [List.getD, h4]
      have hk0 : (0 : Int) ≤ (k : Int) := by omega
      have hk1 : (k : Int) < (G.length : Int) := by omega
      clear hgc hrow h4
      generalize G[k].2[0]'h04 = v0 at *
      clear h04
      generalize G[k].1 = g1 at *
      generalize sumW ((G.map (fun (z : Nat × List (Int × ByteArray)) => z.2.getD 0 (0, .empty))).take k) = sk at *
      go_wp2
      go_roundw
      case rel => exact ⟨k + 1, by omega, by go_num, by rw [HSN.out], by first | rfl | trivial⟩
      case measure => simp [intOf]; omega
    · have hke : k = G.length := by omega
      subst hke
      have hse : sumW ((G.map (fun (z : Nat × List (Int × ByteArray)) => z.2.getD 0 (0, .empty))).take G.length) = sm := by rw [List.take_of_length_le (by simp)]; exact HSM.out
      rw [hse]
      obtain ⟨j, hj, hje⟩ := pick_lt wh 3 (by omega)
      have HJ : Hid (pickI wh 3 = (j : Int)) := hje
      obtain ⟨cc, hcc, hcj⟩ : ∃ cc : Nat, (cc = 0 ∨ cc = 2 ∨ cc = 3) ∧ (#[Value.int .i64 0, Value.int .i64 2, Value.int .i64 3])[j]? = some (.int .i64 cc) := by
        match j, hj with
        | 0, _ => exact ⟨0, by omega, rfl⟩
        | 1, _ => exact ⟨2, by omega, rfl⟩
        | 2, _ => exact ⟨3, by omega, rfl⟩
      have cj : (w7.alloc (.cells #[.int .i64 0, .int .i64 2, .int .i64 3] 3)).cell? ⟨w7.heap.size, j, none⟩ = some (.int .i64 cc) := by
        rw [cell_of_row _ _ _ _ _ _ (heap_alloc_new w7 _)]; exact hcj
      have hcl : cc < ([1, 2, 3, 4] : List Int).length := by simp; omega
      have HK2 : Hid (¬ ([1, 2, 3, 4] : List Int)[cc] = 2) := by
        rcases hcc with rfl | rfl | rfl
        · show ¬ (1 : Int) = 2; omega
        · show ¬ (3 : Int) = 2; omega
        · show ¬ (4 : Int) = 2; omega
      have z0 : w7.cell? ⟨w6.heap.size, 0, none⟩ = some (.int .i64 sm) := by rw [cell_of_row _ _ _ _ _ _ Z7.out]; rfl
      have z1 : w7.cell? ⟨w6.heap.size, 1, none⟩ = some (.string ⟨#[]⟩) := by rw [cell_of_row _ _ _ _ _ _ Z7.out]; rfl
      have k5 : ∀ a : Int, (a != a) = false := fun a => by simp
      have hj0 : (0 : Int) ≤ (j : Int) := by omega
      have hcc0 : (0 : Int) ≤ (cc : Int) := by omega
      obtain ⟨mm, hmm⟩ : ∃ mm, foldAll 2 (G.map (fun (z : Nat × List (Int × ByteArray)) => z.2.getD cc (0, .empty))) = mm := ⟨_, rfl⟩
      obtain ⟨MM, hMM⟩ : ∃ MM, foldAll 3 (G.map (fun (z : Nat × List (Int × ByteArray)) => z.2.getD cc (0, .empty))) = MM := ⟨_, rfl⟩
      have mmE : Hid (foldAll 2 (G.map (fun (z : Nat × List (Int × ByteArray)) => z.2.getD cc (0, .empty))) = mm) := hmm
      have MME : Hid (foldAll 3 (G.map (fun (z : Nat × List (Int × ByteArray)) => z.2.getD cc (0, .empty))) = MM) := hMM
      have HEN : Hid (Ends cc (G.map (fun (z : Nat × List (Int × ByteArray)) => z.2.getD cc (0, .empty))) mm MM) := by
        unfold Hid
        rw [← hmm, ← hMM]
        rcases hcc with rfl | rfl | rfl
        · refine ends_num 0 (.inl rfl) _ (fun u hu => ?_)
          obtain ⟨z, hz, rfl⟩ := List.mem_map.1 hu
          obtain ⟨y, _, e⟩ := HROW.out z hz
          rw [e]; rfl
        · refine ends_text _ (fun u hu => ?_)
          obtain ⟨z, hz, rfl⟩ := List.mem_map.1 hu
          obtain ⟨y, _, e⟩ := HROW.out z hz
          rw [e]; rfl
        · refine ends_num 3 (.inr rfl) _ (fun u hu => ?_)
          obtain ⟨z, hz, rfl⟩ := List.mem_map.1 hu
          obtain ⟨y, _, e⟩ := HROW.out z hz
          rw [e]; rfl
      have HV64 : Hid (∀ u ∈ G.map (fun (z : Nat × List (Int × ByteArray)) => z.2.getD cc (0, .empty)), in64 u.1) := fun u hu => by
        obtain ⟨z, hz, rfl⟩ := List.mem_map.1 hu
        obtain ⟨y, hy, e⟩ := HROW.out z hz
        have h4 : cc < y.row.length := by rw [rawRow_length]; simp at hcl; omega
        have := row_in64 y hy cc h4
        rw [e]
        simpa [List.getD, h4] using this
      clear hmm hMM hse hje hcj hk hlt
      go_wp2_with fail
      refine (pick_any wh 3 _ hwh.1 hwh.2 (by omega) (by omega)).mono ?_
      rintro e w8 ⟨rfl, rfl⟩
      rw [HJ.out]
      have Tw8 : Hid (TableAt (w7.alloc (.cells #[.int .i64 0, .int .i64 2, .int .i64 3] 3)) (w1.heap.size + 1) bt bs [1, 2, 3, 4] L sv fv) := T7.out.below ((Below.refl _ _).alloc (Nat.le_refl _) _)
      have Iw8 : Hid (TestsAt (w7.alloc (.cells #[.int .i64 0, .int .i64 2, .int .i64 3] 3)) (some ⟨w3.heap.size, 0, none⟩) [p]) := I7.out.keep (fun j hj => Below.heap_alloc _ _ _ hj)
      have K8 : Below w7.heap.size w7 (w7.alloc (.cells #[.int .i64 0, .int .i64 2, .int .i64 3] 3)) := (Below.refl _ _).alloc (Nat.le_refl _) _
      go_wp2_with fail
      revert Tw8 Iw8 K8
      generalize w7.alloc (.cells #[.int .i64 0, .int .i64 2, .int .i64 3] 3) = w8
      intro Tw8 Iw8 K8
      have s8 := K8.size
      clear cj z0 z1
      have F2 := fold_ok (w1.heap.size + 1) bt bs [1, 2, 3, 4] L sv fv 1 (some ⟨w3.heap.size, 0, none⟩) [p] cc 2 w8 Tw8.out (by omega) (by decide) (fun z hz => (HLR.out z hz).1) Iw8.out (valid_t gp.out) hcl (by decide) (fun h => by cases h) HK2.out
      rw [HV.out, HLN.out, mmE.out] at F2
      have FF2 : Hid (Calls Tryd.prog 17 #[.pointer (some ⟨bt, 0, none⟩), .slice (some ⟨w3.heap.size, 0, none⟩) 1 1, .int .i64 cc, .int .i64 2] w8 fun e w' => e = .returned (.tuple #[.agg #[.int .i64 mm.1, .string mm.2], .int .i64 G.length, .nilIface]) ∧ Below w8.heap.size w8 w') := F2
      clear F2
      refine FF2.out.mono ?_
      rintro e w9 ⟨rfl, hb9⟩
      have s9 := hb9.size
      have K10 : Below w8.heap.size w8 (w9.alloc (.cells #[.int .i64 mm.1, .string mm.2] 30)) := hb9.alloc s9 _
      have Z10 : Hid ((w9.alloc (.cells #[.int .i64 mm.1, .string mm.2] 30)).heap[w9.heap.size]? = some (.cells #[.int .i64 mm.1, .string mm.2] 30 (0, 0))) := heap_alloc_new w9 _
      clear FF2 hb9
      go_wp2_with fail
      revert K10 Z10
      generalize w9.alloc (.cells #[.int .i64 mm.1, .string mm.2] 30) = w10
      intro K10 Z10
      have s10 := K10.size
      have hl10 : w9.heap.size < w10.heap.size := (Array.getElem?_eq_some_iff.1 Z10.out).1
      have Tw10 : Hid (TableAt w10 (w1.heap.size + 1) bt bs [1, 2, 3, 4] L sv fv) := Tw8.out.below K10
      have Iw10 : Hid (TestsAt w10 (some ⟨w3.heap.size, 0, none⟩) [p]) := Iw8.out.keep (fun j hj => K10.block j hj)
      have F3 := fold_ok (w1.heap.size + 1) bt bs [1, 2, 3, 4] L sv fv 1 (some ⟨w3.heap.size, 0, none⟩) [p] cc 3 w10 Tw10.out (by omega) (by decide) (fun z hz => (HLR.out z hz).1) Iw10.out (valid_t gp.out) hcl (by decide) (fun h => by cases h) HK2.out
      rw [HV.out, HLN.out, MME.out] at F3
      have FF3 : Hid (Calls Tryd.prog 17 #[.pointer (some ⟨bt, 0, none⟩), .slice (some ⟨w3.heap.size, 0, none⟩) 1 1, .int .i64 cc, .int .i64 3] w10 fun e w' => e = .returned (.tuple #[.agg #[.int .i64 MM.1, .string MM.2], .int .i64 G.length, .nilIface]) ∧ Below w10.heap.size w10 w') := F3
      clear F3
      refine FF3.out.mono ?_
      rintro e w11 ⟨rfl, hb11⟩
      have s11 := hb11.size
      have K12 : Below w10.heap.size w10 (w11.alloc (.cells #[.int .i64 MM.1, .string MM.2] 30)) := hb11.alloc s11 _
      have Z12 : Hid ((w11.alloc (.cells #[.int .i64 MM.1, .string MM.2] 30)).heap[w11.heap.size]? = some (.cells #[.int .i64 MM.1, .string MM.2] 30 (0, 0))) := heap_alloc_new w11 _
      have Y12 : Hid ((w11.alloc (.cells #[.int .i64 MM.1, .string MM.2] 30)).heap[w9.heap.size]? = some (.cells #[.int .i64 mm.1, .string mm.2] 30 (0, 0))) := (K12.block _ hl10).trans Z10.out
      have B12 : Below w7.heap.size w7 (w11.alloc (.cells #[.int .i64 MM.1, .string MM.2] 30)) := (K8.trans (K10.mono s8)).trans (K12.mono (by omega))
      have Q12 : Hid (w11.heap.size < (w11.alloc (.cells #[.int .i64 MM.1, .string MM.2] 30)).heap.size) := by unfold Hid; simp
      have ZA : Hid (w11.heap[w9.heap.size]? = some (.cells #[.int .i64 mm.1, .string mm.2] 30 (0, 0))) := (hb11.block _ hl10).trans Z10.out
      clear FF3 hb11 Tw8 Iw8 Tw10 Iw10 T7 I7 mmE MME HV HK2 HSM
      by_cases hz : G.length = 0
      · obtain rfl : G = [] := List.eq_nil_of_length_eq_zero hz
        obtain ⟨e1, e2⟩ := HEN.out.nil rfl
        subst e1 e2
        clear HEN HGC HG4 HROW HLN HV64 HGE
        dsimp only at *
        have y0 : ∀ o, (w11.alloc o).cell? ⟨w9.heap.size, 0, none⟩ = some (.int .i64 0) := fun o => (cell_alloc w11 o _ _ (by omega)).trans (by rw [cell_of_row _ _ _ _ _ _ ZA.out]; rfl)
        have y1 : ∀ o, (w11.alloc o).cell? ⟨w9.heap.size, 1, none⟩ = some (.string ⟨#[]⟩) := fun o => (cell_alloc w11 o _ _ (by omega)).trans (by rw [cell_of_row _ _ _ _ _ _ ZA.out]; rfl)
        go_wp2_with fail
        go_loopw [32, 33, 34] (fun a b i wr => a = .bool true ∧ b = .bool true ∧ i = .int .i64 0 ∧ (w11.alloc (.cells #[.int .i64 0, .string ⟨#[]⟩] 30)) = wr) (fun _ _ _ _ => 0)
        case atStart => exact ⟨rfl, rfl, rfl, rfl⟩
        case round =>
          obtain ⟨rfl, rfl, rfl, rfl⟩ := hrel
          go_wp2
          go_ret
          exact ⟨rfl, B7.trans (B12.mono B7.size)⟩
      · have hz0 : 0 < G.length := by omega
        have hz1 : ((G.length : Int) == 0) = false := beq_false_of_ne (by omega)
        have hz2 : (0 : Int) < (G.length : Int) := by omega
        obtain ⟨gg, rfl, hgg, hgc⟩ := HGC.out hz0
        have HCC : Hid (∀ k (hk : k < G.length), w7.cell? ⟨gg, k, none⟩ = some (.slice (some ⟨G[k].1, 0, none⟩) 4 4)) := hgc
        obtain ⟨hm1, hM1⟩ := HEN.out.one (by intro h; rw [List.map_eq_nil_iff] at h; rw [h] at hz0; simp at hz0)
        have HM1 : Hid (mm ∈ G.map (fun (z : Nat × List (Int × ByteArray)) => z.2.getD cc (0, .empty))) := hm1
        have HM2 : Hid (MM ∈ G.map (fun (z : Nat × List (Int × ByteArray)) => z.2.getD cc (0, .empty))) := hM1
        have m64 := HV64.out mm hm1
        have M64 := HV64.out MM hM1
        clear hgc hm1 hM1 hz
        go_wp2_with fail
        revert K12 Z12 Y12 B12 Q12
        generalize (w11.alloc (.cells #[.int .i64 MM.1, .string MM.2] 30)) = w12
        intro K12 Z12 Y12 B12 Q12
        have hq12 := Q12.out
        go_loopw [32, 33, 34] (fun a b i wr => ∃ (k : Nat) (ab bb : Bool), k ≤ G.length ∧ i = .int .i64 k ∧ a = .bool ab ∧ b = .bool bb ∧ (mm ∈ (G.map (fun (z : Nat × List (Int × ByteArray)) => z.2.getD cc (0, .empty))).take k → ab = true) ∧ (MM ∈ (G.map (fun (z : Nat × List (Int × ByteArray)) => z.2.getD cc (0, .empty))).take k → bb = true) ∧ Below w12.heap.size w12 wr) (fun _ _ i _ => G.length - (intOf i).toNat)
        case atStart => exact ⟨0, false, false, Nat.zero_le _, rfl, rfl, rfl, fun h => by simp at h, fun h => by simp at h, Below.refl _ _⟩
        case round =>
          obtain ⟨k, ab, bb, hk, rfl, rfl, rfl, hab, hbb, hB⟩ := hrel
          have HAB : Hid (mm ∈ (G.map (fun (z : Nat × List (Int × ByteArray)) => z.2.getD cc (0, .empty))).take k → ab = true) := hab
          have HBB : Hid (MM ∈ (G.map (fun (z : Nat × List (Int × ByteArray)) => z.2.getD cc (0, .empty))).take k → bb = true) := hbb
          clear hab hbb
          have sB := hB.size
          by_cases hlt : k < G.length
          · have h4 := HG4.out k hlt
            have hcr : cc < G[k].2.length := by simp at hcl; omega
            have BB : Below w7.heap.size w7 wr := B12.trans (hB.mono B12.size)
            have m1 : wr.cell? ⟨gg, k, none⟩ = some (.slice (some ⟨G[k].1, 0, none⟩) 4 4) := (BB.cell (p := ⟨gg, k, none⟩) hgg).trans (HCC.out k hlt)
            have hblk := (G7.out.blk G[k] (List.getElem_mem hlt)).2
            have hgl := hblk.lt
            obtain ⟨v1, v2⟩ := hblk.rowIn cc hcr
            replace v1 := (BB.cell (p := ⟨G[k].1, cc * 2, none⟩) hgl).trans v1
            replace v2 := (BB.cell (p := ⟨G[k].1, cc * 2 + 1, none⟩) hgl).trans v2
            have HTK : Hid ((G.map (fun (z : Nat × List (Int × ByteArray)) => z.2.getD cc (0, .empty))).take (k + 1) = (G.map (fun (z : Nat × List (Int × ByteArray)) => z.2.getD cc (0, .empty))).take k ++ [G[k].2[cc]'hcr]) := by
              unfold Hid
              rw [List.take_succ_eq_append_getElem (by simpa using hlt)]
              simp [List.getD, hcr]
            have hmem : G[k].2[cc]'hcr ∈ G.map (fun (z : Nat × List (Int × ByteArray)) => z.2.getD cc (0, .empty)) := List.mem_map.2 ⟨G[k], List.getElem_mem hlt, by simp [List.getD, hcr]⟩
            have v64 := HV64.out _ hmem
            have HLO : Hid (saysB 3 cc (G[k].2[cc]'hcr).1 (G[k].2[cc]'hcr).2 mm.1 mm.2 = false) := HEN.out.low _ hmem
            have HHI : Hid (saysB 5 cc (G[k].2[cc]'hcr).1 (G[k].2[cc]'hcr).2 MM.1 MM.2 = false) := HEN.out.high _ hmem
            clear hmem hblk hgl h4
            generalize G[k].2[cc]'hcr = v at *
            clear hcr
            generalize G[k].1 = g1 at *
            have q1 := eql_pair v mm
            have q2 := eql_pair v MM
            have YR : wr.heap[w9.heap.size]? = some (.cells #[.int .i64 mm.1, .string mm.2] 30 (0, 0)) := (hB.block _ (by omega)).trans Y12.out
            have ZR : wr.heap[w11.heap.size]? = some (.cells #[.int .i64 MM.1, .string MM.2] 30 (0, 0)) := (hB.block _ hq12).trans Z12.out
            have y0 : ∀ o, (wr.alloc o).cell? ⟨w9.heap.size, 0, none⟩ = some (.int .i64 mm.1) := fun o => (cell_alloc wr o _ _ (by omega)).trans (by rw [cell_of_row _ _ _ _ _ _ YR]; rfl)
            have y1 : ∀ o, (wr.alloc o).cell? ⟨w9.heap.size, 1, none⟩ = some (.string mm.2) := fun o => (cell_alloc wr o _ _ (by omega)).trans (by rw [cell_of_row _ _ _ _ _ _ YR]; rfl)
            have z0 : ∀ o, (wr.alloc o).cell? ⟨w11.heap.size, 0, none⟩ = some (.int .i64 MM.1) := fun o => (cell_alloc wr o _ _ (by omega)).trans (by rw [cell_of_row _ _ _ _ _ _ ZR]; rfl)
            have z1 : ∀ o, (wr.alloc o).cell? ⟨w11.heap.size, 1, none⟩ = some (.string MM.2) := fun o => (cell_alloc wr o _ _ (by omega)).trans (by rw [cell_of_row _ _ _ _ _ _ ZR]; rfl)
            have HZR : Hid (wr.heap[w11.heap.size]? = some (.cells #[.int .i64 MM.1, .string MM.2] 30 (0, 0))) := ZR
            have hk0 : (0 : Int) ≤ (k : Int) := by omega
            have hk1 : (k : Int) < (G.length : Int) := by omega
            have hcc4 : (cc : Int) < 4 := by omega
            clear YR ZR
            cases ab <;> cases bb
            · go_wp2_with fail
              refine (says_any 3 cc v.1 v.2 mm.1 mm.2 _ v64.1 v64.2 m64.1 m64.2).mono ?_
              rintro e w13 ⟨rfl, hb13⟩
              rw [HLO.out]
              have s13 := hb13.size
              simp at s13
              have VB : w13.heap[wr.heap.size]? = some (.cells #[.int .i64 v.1, .string v.2] 30 (0, 0)) := (hb13.block _ (by simp)).trans (heap_alloc_new wr _)
              have ZB : w13.heap[w11.heap.size]? = some (.cells #[.int .i64 MM.1, .string MM.2] 30 (0, 0)) := (hb13.block _ (by simp; omega)).trans ((Below.heap_alloc _ _ _ (by omega)).trans HZR.out)
              have a0 : w13.cell? ⟨wr.heap.size, 0, none⟩ = some (.int .i64 v.1) := by rw [cell_of_row _ _ _ _ _ _ VB]; rfl
              have a1 : w13.cell? ⟨wr.heap.size, 1, none⟩ = some (.string v.2) := by rw [cell_of_row _ _ _ _ _ _ VB]; rfl
              have a2 : w13.cell? ⟨w11.heap.size, 0, none⟩ = some (.int .i64 MM.1) := by rw [cell_of_row _ _ _ _ _ _ ZB]; rfl
              have a3 : w13.cell? ⟨w11.heap.size, 1, none⟩ = some (.string MM.2) := by rw [cell_of_row _ _ _ _ _ _ ZB]; rfl
              clear VB ZB
              go_wp2_with fail
              refine (says_any 5 cc v.1 v.2 MM.1 MM.2 _ v64.1 v64.2 M64.1 M64.2).mono ?_
              rintro e w14 ⟨rfl, hb14⟩
              rw [HHI.out]
              have s14 := hb14.size
              go_wp2
              go_roundw
              case rel =>
                refine ⟨k + 1, _, _, by omega, by go_num, rfl, rfl, fun h => ?_, fun h => ?_, ((hB.alloc sB _).trans (hb13.mono (by simp; omega))).trans (hb14.mono (by omega))⟩
                · rw [HTK.out] at h
                  rcases List.mem_append.1 h with h | h
                  · have := HAB.out h
                    cases this
                  · have := List.mem_singleton.1 h
                    exact decide_eq_true this.symm
                · rw [HTK.out] at h
                  rcases List.mem_append.1 h with h | h
                  · have := HBB.out h
                    cases this
                  · have := List.mem_singleton.1 h
                    exact decide_eq_true this.symm
              case measure => simp [intOf]; omega
            · go_wp2_with fail
              refine (says_any 3 cc v.1 v.2 mm.1 mm.2 _ v64.1 v64.2 m64.1 m64.2).mono ?_
              rintro e w13 ⟨rfl, hb13⟩
              rw [HLO.out]
              have s13 := hb13.size
              simp at s13
              have VB : w13.heap[wr.heap.size]? = some (.cells #[.int .i64 v.1, .string v.2] 30 (0, 0)) := (hb13.block _ (by simp)).trans (heap_alloc_new wr _)
              have ZB : w13.heap[w11.heap.size]? = some (.cells #[.int .i64 MM.1, .string MM.2] 30 (0, 0)) := (hb13.block _ (by simp; omega)).trans ((Below.heap_alloc _ _ _ (by omega)).trans HZR.out)
              have a0 : w13.cell? ⟨wr.heap.size, 0, none⟩ = some (.int .i64 v.1) := by rw [cell_of_row _ _ _ _ _ _ VB]; rfl
              have a1 : w13.cell? ⟨wr.heap.size, 1, none⟩ = some (.string v.2) := by rw [cell_of_row _ _ _ _ _ _ VB]; rfl
              have a2 : w13.cell? ⟨w11.heap.size, 0, none⟩ = some (.int .i64 MM.1) := by rw [cell_of_row _ _ _ _ _ _ ZB]; rfl
              have a3 : w13.cell? ⟨w11.heap.size, 1, none⟩ = some (.string MM.2) := by rw [cell_of_row _ _ _ _ _ _ ZB]; rfl
              clear VB ZB
              go_wp2_with fail
              refine (says_any 5 cc v.1 v.2 MM.1 MM.2 _ v64.1 v64.2 M64.1 M64.2).mono ?_
              rintro e w14 ⟨rfl, hb14⟩
              rw [HHI.out]
              have s14 := hb14.size
              go_wp2
              go_roundw
              case rel =>
                refine ⟨k + 1, _, true, by omega, by go_num, rfl, rfl, fun h => ?_, fun h => ?_, ((hB.alloc sB _).trans (hb13.mono (by simp; omega))).trans (hb14.mono (by omega))⟩
                · rw [HTK.out] at h
                  rcases List.mem_append.1 h with h | h
                  · have := HAB.out h
                    cases this
                  · have := List.mem_singleton.1 h
                    exact decide_eq_true this.symm
                · rfl
              case measure => simp [intOf]; omega
            · go_wp2_with fail
              refine (says_any 3 cc v.1 v.2 mm.1 mm.2 _ v64.1 v64.2 m64.1 m64.2).mono ?_
              rintro e w13 ⟨rfl, hb13⟩
              rw [HLO.out]
              have s13 := hb13.size
              simp at s13
              have VB : w13.heap[wr.heap.size]? = some (.cells #[.int .i64 v.1, .string v.2] 30 (0, 0)) := (hb13.block _ (by simp)).trans (heap_alloc_new wr _)
              have ZB : w13.heap[w11.heap.size]? = some (.cells #[.int .i64 MM.1, .string MM.2] 30 (0, 0)) := (hb13.block _ (by simp; omega)).trans ((Below.heap_alloc _ _ _ (by omega)).trans HZR.out)
              have a0 : w13.cell? ⟨wr.heap.size, 0, none⟩ = some (.int .i64 v.1) := by rw [cell_of_row _ _ _ _ _ _ VB]; rfl
              have a1 : w13.cell? ⟨wr.heap.size, 1, none⟩ = some (.string v.2) := by rw [cell_of_row _ _ _ _ _ _ VB]; rfl
              have a2 : w13.cell? ⟨w11.heap.size, 0, none⟩ = some (.int .i64 MM.1) := by rw [cell_of_row _ _ _ _ _ _ ZB]; rfl
              have a3 : w13.cell? ⟨w11.heap.size, 1, none⟩ = some (.string MM.2) := by rw [cell_of_row _ _ _ _ _ _ ZB]; rfl
              clear VB ZB
              go_wp2_with fail
              refine (says_any 5 cc v.1 v.2 MM.1 MM.2 _ v64.1 v64.2 M64.1 M64.2).mono ?_
              rintro e w14 ⟨rfl, hb14⟩
              rw [HHI.out]
              have s14 := hb14.size
              go_wp2
              go_roundw
              case rel =>
                refine ⟨k + 1, true, _, by omega, by go_num, rfl, rfl, fun h => ?_, fun h => ?_, ((hB.alloc sB _).trans (hb13.mono (by simp; omega))).trans (hb14.mono (by omega))⟩
                · rfl
                · rw [HTK.out] at h
                  rcases List.mem_append.1 h with h | h
                  · have := HBB.out h
                    cases this
                  · have := List.mem_singleton.1 h
                    exact decide_eq_true this.symm
              case measure => simp [intOf]; omega
            · go_wp2_with fail
              refine (says_any 3 cc v.1 v.2 mm.1 mm.2 _ v64.1 v64.2 m64.1 m64.2).mono ?_
              rintro e w13 ⟨rfl, hb13⟩
              rw [HLO.out]
              have s13 := hb13.size
              simp at s13
              have VB : w13.heap[wr.heap.size]? = some (.cells #[.int .i64 v.1, .string v.2] 30 (0, 0)) := (hb13.block _ (by simp)).trans (heap_alloc_new wr _)
              have ZB : w13.heap[w11.heap.size]? = some (.cells #[.int .i64 MM.1, .string MM.2] 30 (0, 0)) := (hb13.block _ (by simp; omega)).trans ((Below.heap_alloc _ _ _ (by omega)).trans HZR.out)
              have a0 : w13.cell? ⟨wr.heap.size, 0, none⟩ = some (.int .i64 v.1) := by rw [cell_of_row _ _ _ _ _ _ VB]; rfl
              have a1 : w13.cell? ⟨wr.heap.size, 1, none⟩ = some (.string v.2) := by rw [cell_of_row _ _ _ _ _ _ VB]; rfl
              have a2 : w13.cell? ⟨w11.heap.size, 0, none⟩ = some (.int .i64 MM.1) := by rw [cell_of_row _ _ _ _ _ _ ZB]; rfl
              have a3 : w13.cell? ⟨w11.heap.size, 1, none⟩ = some (.string MM.2) := by rw [cell_of_row _ _ _ _ _ _ ZB]; rfl
              clear VB ZB
              go_wp2_with fail
              refine (says_any 5 cc v.1 v.2 MM.1 MM.2 _ v64.1 v64.2 M64.1 M64.2).mono ?_
              rintro e w14 ⟨rfl, hb14⟩
              rw [HHI.out]
              have s14 := hb14.size
              go_wp2
              go_roundw
              case rel =>
                refine ⟨k + 1, true, true, by omega, by go_num, rfl, rfl, fun h => ?_, fun h => ?_, ((hB.alloc sB _).trans (hb13.mono (by simp; omega))).trans (hb14.mono (by omega))⟩
                · rfl
                · rfl
              case measure => simp [intOf]; omega
          · have hke : k = G.length := by omega
            subst hke
            have ht : (G.map (fun (z : Nat × List (Int × ByteArray)) => z.2.getD cc (0, .empty))).take G.length = G.map (fun (z : Nat × List (Int × ByteArray)) => z.2.getD cc (0, .empty)) := List.take_of_length_le (by simp)
            have ea := HAB.out (by rw [ht]; exact HM1.out)
            have eb := HBB.out (by rw [ht]; exact HM2.out)
            subst ea eb
            clear ht
            go_wp2
            go_ret
            exact ⟨rfl, (B7.trans (B12.mono B7.size)).trans (hB.mono (by have := B7.size; have := B12.size; omega))⟩

end Go.Proofs.YtcconhgbefhdeaaDoor
