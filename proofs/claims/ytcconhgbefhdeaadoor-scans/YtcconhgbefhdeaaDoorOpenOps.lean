import Derived.Test.YtcconhgbefhdeaaDoorScans
import Derived.Test.YtcconhgbefhdeaaDoorOpenArgs
import Derived.Test.YtcconhgbefhdeaaDoorRows
namespace Go.Proofs.YtcconhgbefhdeaaDoor
open Go.ChangeShapes Go.WideShapes Go.ChangeAt Go.RowKit Go.Joins Go.Deep

section
variable {H : Type} {enc : TypeId × Value → H} {W : World}

theorem bulk_pos (d : DataW H) : 1 ≤ Rows.uptoBulk d := by
  cases d with
  | lit l => cases l <;> simp [Rows.uptoBulk]
  | _ => simp [Rows.uptoBulk]
theorem bulk_length (l : List (DataW H)) : l.length ≤ Rows.uptoBulkAll l := by
  induction l with
  | nil => simp
  | cons d r ih => have := bulk_pos d; simp [Rows.uptoBulkAll]; omega
theorem bulk_mem (l : List (DataW H)) (d : DataW H) (h : d ∈ l) : Rows.uptoBulk d ≤ Rows.uptoBulkAll l := by
  induction l with
  | nil => cases h
  | cons e r ih =>
    simp only [Rows.uptoBulkAll]
    rcases List.mem_cons.1 h with rfl | h
    · omega
    · have := ih h; omega
theorem bulk_range (n : Nat) (D : Nat → DataW H) (s : List (DataW H)) : n ≤ Rows.uptoBulk (.slice ((List.range n).map D) s) := by
  have := bulk_length ((List.range n).map D)
  simp only [List.length_map, List.length_range] at this
  simp only [Rows.uptoBulk]
  omega

theorem cells_value : Tryd.prog.cellsOf 30 = 2 := by kernel_rfl
theorem cells_test : Tryd.prog.cellsOf 32 = 4 := by kernel_rfl
theorem cells_op : Tryd.prog.cellsOf 28 = 8 := by kernel_rfl

set_option maxRecDepth 100000 in
/-- One value out of its cells. -/
theorem open_value {base : Nat} {spare : Nat → Bool} {held : Bool} {n : Nat} {cs : List Value} {x : DataW H × List MemPlace} (h : DataW.trod enc Tryd.prog W base spare held n 30 cs = some x) :
    ∃ a s, in64 a ∧ cs = [.int .i64 a, .string s] := by
  obtain ⟨y0, y1, m, _, hl, h0, h1⟩ := trod_struct2 Tryd.underlying30 h
  rw [cells_value] at hl
  match cs, hl with
  | [v0, v1], _ =>
    have k2 : Tryd.prog.cellsOf 2 = 1 := by kernel_rfl
    have k9 : Tryd.prog.cellsOf 9 = 1 := by kernel_rfl
    obtain ⟨a, e0, _, w0⟩ := DataW.trod_int Tryd.underlying2 h0
    obtain ⟨s, e1, _, _⟩ := DataW.trod_string Tryd.underlying9 h1
    simp [k2] at e0
    simp [k9] at e1
    exact ⟨a, s, bounds_i64 w0, by rw [e0, e1]⟩

set_option maxRecDepth 100000 in
/-- One test out of its cells. -/
theorem open_test {base : Nat} {spare : Nat → Bool} {held : Bool} {n : Nat} {cs : List Value} {x : DataW H × List MemPlace} (h : DataW.trod enc Tryd.prog W base spare held n 32 cs = some x) :
    ∃ t : Tst, in64 t.n ∧ cs = [.int .i64 t.dO, .int .i64 t.col, .int .i64 t.n, .string t.s] := by
  obtain ⟨y0, y1, y2, m, _, hl, h0, h1, h2⟩ := trod_struct3 Tryd.underlying32 h
  rw [cells_test] at hl
  match cs, hl with
  | [v0, v1, v2, v3], _ =>
    have k3 : Tryd.prog.cellsOf 3 = 1 := by kernel_rfl
    obtain ⟨a, e0, _, w0⟩ := DataW.trod_int Tryd.underlying3 h0
    obtain ⟨b, e1, _, w1⟩ := DataW.trod_int Tryd.underlying3 h1
    obtain ⟨c, s, hc, e2⟩ := open_value h2
    simp [k3] at e0 e1
    simp [cells_value] at e2
    exact ⟨⟨a, b, c, s⟩, hc, by rw [e0, e1, e2.1, e2.2]⟩

/-- A row out of its slice. -/
theorem open_row {fuel : Nat} {cs : List Value} {x : DataW H × List MemPlace} (h : DataW.trod enc Tryd.prog W 0 (fun _ => true) true fuel 25 cs = some x) :
    ∃ sa cap, ∃ r : List (Int × ByteArray), cs = [.slice sa r.length cap] ∧ RowA W sa r ∧ RowRg r ∧ r.length ≤ Rows.uptoBulk x.1 := by
  rcases open_slice Tryd.underlying25 h with ⟨hcs, _⟩ | ⟨a, len, cap, m, n, D, Pl, hcs, _, hl, hm, hmm, hxd, hx⟩
  · exact ⟨none, 0, [], hcs, .inl rfl, fun i hi => absurd hi (by simp), by simp⟩
  · have hlm : len ≤ m := by rw [hmm]; simpa using hl
    have each : ∀ i, i < len → ∃ p : Int × ByteArray, in64 p.1 ∧ W.cell? (a.add (i * 2)) = some (.int .i64 p.1) ∧ W.cell? (a.add (i * 2 + 1)) = some (.string p.2) := by
      intro i hi
      obtain ⟨cs', h1, h2⟩ := hx i (by omega)
      rw [cells_value] at h1
      obtain ⟨_, _, hcell⟩ := World.cells?_some h1
      obtain ⟨z, s, hz, rfl⟩ := open_value h2
      have e0 := hcell 0 (by omega)
      have e1 := hcell 1 (by omega)
      rw [add_add] at e0 e1
      exact ⟨(z, s), hz, by simpa using e0, by simpa using e1⟩
    have hI : Inhabited (Int × ByteArray) := ⟨(0, .empty)⟩
    obtain ⟨f, hf⟩ := choose_lt each
    refine ⟨some a, cap, (List.range len).map f, by simpa using hcs, ?_, fun i hi => ?_, by rw [hxd]; simpa using bulk_range len D _⟩
    · by_cases h0 : len = 0
      · left; subst h0; rfl
      · right
        obtain ⟨b, off, spot⟩ := a
        have hspot : spot = none := by simpa [Addr.add] using World.cell?_spot (hf 0 (by omega)).2.1
        subst hspot
        refine ⟨b, off, rfl, fun i hi => ?_⟩
        have hi' : i < len := by simpa using hi
        have := (hf i hi').2
        simp only [addr_add] at this
        simpa [Nat.add_assoc] using this
    · have hi' : i < len := by simpa using hi
      simpa [in64] using (hf i hi').1

/-- Tests out of their slice. -/
theorem open_tests {fuel : Nat} {cs : List Value} {x : DataW H × List MemPlace} (h : DataW.trod enc Tryd.prog W 0 (fun _ => true) true fuel 26 cs = some x) :
    ∃ sa cap, ∃ T : List Tst, cs = [.slice sa T.length cap] ∧ TestsA W sa T ∧ TstRg T ∧ T.length ≤ Rows.uptoBulk x.1 := by
  rcases open_slice Tryd.underlying26 h with ⟨hcs, _⟩ | ⟨a, len, cap, m, n, D, Pl, hcs, _, hl, hm, hmm, hxd, hx⟩
  · exact ⟨none, 0, [], hcs, .inl rfl, fun i hi => absurd hi (by simp), by simp⟩
  · have hlm : len ≤ m := by rw [hmm]; simpa using hl
    have each : ∀ i, i < len → ∃ t : Tst, in64 t.n ∧ W.cell? (a.add (i * 4)) = some (.int .i64 t.dO) ∧ W.cell? (a.add (i * 4 + 1)) = some (.int .i64 t.col) ∧ W.cell? (a.add (i * 4 + 2)) = some (.int .i64 t.n) ∧ W.cell? (a.add (i * 4 + 3)) = some (.string t.s) := by
      intro i hi
      obtain ⟨cs', h1, h2⟩ := hx i (by omega)
      rw [cells_test] at h1
      obtain ⟨_, _, hcell⟩ := World.cells?_some h1
      obtain ⟨t, ht, rfl⟩ := open_test h2
      have e0 := hcell 0 (by omega)
      have e1 := hcell 1 (by omega)
      have e2 := hcell 2 (by omega)
      have e3 := hcell 3 (by omega)
      rw [add_add] at e0 e1 e2 e3
      exact ⟨t, ht, by simpa using e0, by simpa using e1, by simpa using e2, by simpa using e3⟩
    have hI : Inhabited Tst := ⟨⟨0, 0, 0, .empty⟩⟩
    obtain ⟨f, hf⟩ := choose_lt each
    refine ⟨some a, cap, (List.range len).map f, by simpa using hcs, ?_, fun i hi => ?_, by rw [hxd]; simpa using bulk_range len D _⟩
    · by_cases h0 : len = 0
      · left; subst h0; rfl
      · right
        obtain ⟨b, off, spot⟩ := a
        have hspot : spot = none := by simpa [Addr.add] using World.cell?_spot (hf 0 (by omega)).2.1
        subst hspot
        refine ⟨b, off, rfl, fun i hi => ?_⟩
        have hi' : i < len := by simpa using hi
        have := (hf i hi').2
        simp only [addr_add] at this
        simpa [Nat.add_assoc] using this
    · have hi' : i < len := by simpa using hi
      simpa [in64] using (hf i hi').1

/-- A schema out of its slice. -/
theorem open_kinds {fuel : Nat} {cs : List Value} {x : DataW H × List MemPlace} (h : DataW.trod enc Tryd.prog W 0 (fun _ => true) true fuel 24 cs = some x) :
    ∃ sa cap, ∃ ks : List Int, cs = [.slice sa ks.length cap] ∧ KindsA W sa ks ∧ ks.length ≤ Rows.uptoBulk x.1 := by
  rcases open_ints Tryd.underlying24 Tryd.underlying3 (by kernel_rfl) h with ⟨hcs, _⟩ | ⟨a, len, cap, zs, hcs, _, hl, hm, hz, hxd, hcell, hwz⟩
  · exact ⟨none, 0, [], hcs, .inl rfl, by simp⟩
  · have hzl : zs.length = cap := by simpa using hz
    refine ⟨some a, cap, zs.take len, by simpa [show min len zs.length = len by omega] using hcs, ?_, ?_⟩
    rotate_left
    · have hb := bulk_length (H := H) (lits .i64 (zs.take len))
      rw [hxd]
      simp only [Rows.uptoBulk]
      simp only [lits, List.length_map] at hb ⊢
      omega
    by_cases h0 : len = 0
    · left; subst h0; simp
    · right
      obtain ⟨b, off, spot⟩ := a
      have hspot : spot = none := by simpa [Addr.add] using World.cell?_spot (hcell 0 (by omega))
      subst hspot
      refine ⟨b, off, rfl, fun i hi => ?_⟩
      have hi' : i < len := by simp at hi; omega
      have := hcell i (by omega)
      simp [List.getD, show i < zs.length by omega] at this
      rw [addr_add] at this
      simpa using this

set_option maxRecDepth 100000 in
/-- One step out of its cells. -/
theorem open_op {fuel : Nat} {cs : List Value} {x : DataW H × List MemPlace} (h : DataW.trod enc Tryd.prog W 0 (fun _ => true) true fuel 28 cs = some x) :
    ∃ o : OpM, cs = o.cells.toList ∧ KindsA W o.sa o.ks ∧ RowA W o.ra o.r ∧ TestsA W o.ta o.T ∧ RowRg o.r ∧ TstRg o.T ∧ in64 o.kind ∧ in64 o.at' ∧ in64 o.many ∧ o.ks.length ≤ Rows.uptoBulk x.1 ∧ o.r.length ≤ Rows.uptoBulk x.1 ∧ o.T.length ≤ Rows.uptoBulk x.1 := by
  obtain ⟨xs, n, _, rfl, hl, hlen, hf⟩ := DataW.trod_struct Tryd.underlying28 h
  rw [cells_op] at hl
  match xs, hlen, cs, hl with
  | [y0, y1, y2, y3, y4, y5, y6, y7], _, [v0, v1, v2, v3, v4, v5, v6, v7], _ =>
    have k3 : Tryd.prog.cellsOf 3 = 1 := by kernel_rfl
    have k24 : Tryd.prog.cellsOf 24 = 1 := by kernel_rfl
    have k25 : Tryd.prog.cellsOf 25 = 1 := by kernel_rfl
    have k26 : Tryd.prog.cellsOf 26 = 1 := by kernel_rfl
    obtain ⟨a0, e0, _, w0⟩ := DataW.trod_int Tryd.underlying3 (hf 0 _ rfl)
    obtain ⟨a1, e1, _, w1⟩ := DataW.trod_int Tryd.underlying3 (hf 1 _ rfl)
    obtain ⟨a2, e2, _, _⟩ := DataW.trod_int Tryd.underlying3 (hf 2 _ rfl)
    obtain ⟨a3, e3, _, _⟩ := DataW.trod_int Tryd.underlying3 (hf 3 _ rfl)
    obtain ⟨sa, sc, ks, e4, hks, u4⟩ := open_kinds (hf 4 _ rfl)
    obtain ⟨ra, rc, r, e5, hr, hrg, u5⟩ := open_row (hf 5 _ rfl)
    obtain ⟨ta, tc, T, e6, hT, htg, u6⟩ := open_tests (hf 6 _ rfl)
    obtain ⟨a7, e7, _, w7⟩ := DataW.trod_int Tryd.underlying3 (hf 7 _ rfl)
    have hall : ∀ d ∈ [y0.1, y1.1, y2.1, y3.1, y4.1, y5.1, y6.1, y7.1], Rows.uptoBulk d ≤ Rows.uptoBulk (.agg [y0.1, y1.1, y2.1, y3.1, y4.1, y5.1, y6.1, y7.1]) := fun d hd => by
      have := bulk_mem _ d hd
      simp only [Rows.uptoBulk]
      omega
    have m4 : Rows.uptoBulk y4.1 ≤ _ := hall y4.1 (by simp)
    have m5 : Rows.uptoBulk y5.1 ≤ _ := hall y5.1 (by simp)
    have m6 : Rows.uptoBulk y6.1 ≤ _ := hall y6.1 (by simp)
    simp [k3] at e0 e1 e2 e3 e7
    simp [k24] at e4
    simp [k25] at e5
    simp [k26] at e6
    exact ⟨⟨a0, a1, a2, a3, a7, sa, sc, ks, ra, rc, r, ta, tc, T⟩, by rw [e0, e1, e2, e3, e4, e5, e6, e7]; rfl, hks, hr, hT, hrg, htg, bounds_i64 w0, bounds_i64 w1, bounds_i64 w7, Nat.le_trans u4 m4, Nat.le_trans u5 m5, Nat.le_trans u6 m6⟩

/-- The script out of its slice. -/
theorem open_ops {v : Value} {d : DataW H} {p : List MemPlace} {a0 : Option Addr} {len cap : Nat} (hv : v = .slice a0 len cap) (h : DataW.Trod enc Tryd.prog W 0 (fun _ => true) true 22 v d p) (hbulk : Rows.uptoBulk d ≤ 1048576) :
    ∃ ops : List OpM, ops.length = len ∧ OpsA W a0 ops := by
  subst hv
  obtain ⟨fuel, hf⟩ := h
  rcases open_slice Tryd.underlying22 hf with ⟨hcs, _⟩ | ⟨a, l, c, m, n, D, Pl, hcs, _, hl, hm, hmm, hxd, hx⟩
  · simp [Value.cells] at hcs
    obtain ⟨rfl, rfl, rfl⟩ := hcs
    exact ⟨[], rfl, .inl rfl, by simp, by simp⟩
  · simp [Value.cells] at hcs
    obtain ⟨rfl, rfl, rfl⟩ := hcs
    have hlm : len ≤ m := by rw [hmm]; simpa using hl
    have hd : d = .slice ((List.range len).map D) ((List.range (m - len)).map fun j => D (len + j)) := congrArg Prod.fst hxd
    have hlen : len ≤ 1048576 := by
      have := bulk_range len D ((List.range (m - len)).map fun j => D (len + j))
      rw [← hd] at this
      omega
    have each : ∀ i, i < len → ∃ o : OpM, OpOK W o ∧ ∀ j u, o.cells[j]? = some u → W.cell? (a.add (i * 8 + j)) = some u := by
      intro i hi
      obtain ⟨cs', h1, h2⟩ := hx i (by omega)
      rw [cells_op] at h1
      obtain ⟨_, _, hcell⟩ := World.cells?_some h1
      obtain ⟨o, rfl, k1, k2, k3, k4, k5, k6, k7, k8, u1, u2, u3⟩ := open_op h2
      have hDi : Rows.uptoBulk (D i) ≤ 1048576 := by
        have hmem : D i ∈ (List.range len).map D := List.mem_map_of_mem (List.mem_range.2 hi)
        have h3 := bulk_mem _ _ hmem
        rw [hd] at hbulk
        simp only [Rows.uptoBulk] at hbulk
        omega
      have u1' : o.ks.length ≤ 1048576 := Nat.le_trans u1 hDi
      have u2' : o.r.length ≤ 1048576 := Nat.le_trans u2 hDi
      have u3' : o.T.length ≤ 1048576 := Nat.le_trans u3 hDi
      refine ⟨o, ⟨k1, k2, k3, by omega, by omega, by omega, k4, k5, k6, k7, k8⟩, fun j u hj => ?_⟩
      have hj8 : j < 8 := (Array.getElem?_eq_some_iff.1 hj).1
      have e := hcell j hj8
      rw [add_add] at e
      rw [e, ← hj]
      simp
    have hI : Inhabited OpM := ⟨opA⟩
    obtain ⟨f, hf'⟩ := choose_lt each
    refine ⟨(List.range len).map f, by simp, ?_, fun o ho => ?_, by simp; omega⟩
    · by_cases h0 : len = 0
      · left; subst h0; rfl
      · right
        obtain ⟨b, off, spot⟩ := a
        have hspot : spot = none := by simpa [Addr.add] using World.cell?_spot ((hf' 0 (by omega)).2 0 _ rfl)
        subst hspot
        refine ⟨b, off, rfl, fun k hk j u hj => ?_⟩
        have hk' : k < len := by simpa using hk
        have := (hf' k hk').2 j u (by simpa using hj)
        rw [addr_add] at this
        rw [Nat.add_assoc]
        exact this
    · obtain ⟨i, hi, rfl⟩ := List.mem_map.1 ho
      exact (hf' i (List.mem_range.1 hi)).1

end

end Go.Proofs.YtcconhgbefhdeaaDoor
