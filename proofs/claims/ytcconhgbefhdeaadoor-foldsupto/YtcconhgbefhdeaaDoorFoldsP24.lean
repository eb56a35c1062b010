import Derived.Test.YtcconhgbefhdeaaDoorFoldsP22
import Derived.Test.YtcconhgbefhdeaaDoorFoldsP23
import Derived.Test.YtcconhgbefhdeaaDoorRows
import Derived.LaidMore
import Derived.LaidHandle
import Derived.LaidLaws
import Derived.Test.YtcconhgbefhdeaaDoorTie
import Derived.Test.YtcconhgbefhdeaaDoorCards
import Derived.Stop.Joined
import Derived.SevenTiedAt
import Derived.Deep.DeepHandedRow
namespace Go.Proofs.YtcconhgbefhdeaaDoor
open Go.ChangeShapes Go.WideShapes Go.ChangeAt Go.RowKit Go.Joins Go.Deep

section
variable {H : Type} {enc : TypeId × Value → H} {W : World}

theorem bulk_pos (d : DataW H) : 1 ≤ Rows.uptoBulk d := by
  cases d with
  | lit l => cases l <;> simp [Rows.uptoBulk]
  | _ => simp [Rows.uptoBulk]
theorem bulk_length (l : List (DataW H)) : l.length ≤ Rows.uptoBulkAll l := by
  induction l with
  | nil => simp
  | cons d r ih => have := bulk_pos d; simp [Rows.uptoBulkAll]; omega
theorem bulk_mem (l : List (DataW H)) (d : DataW H) (h : d ∈ l) : Rows.uptoBulk d ≤ Rows.uptoBulkAll l := by
  induction l with
  | nil => cases h
  | cons e r ih =>
    simp only [Rows.uptoBulkAll]
    rcases List.mem_cons.1 h with rfl | h
    · omega
    · have := ih h; omega
theorem bulk_range (n : Nat) (D : Nat → DataW H) (s : List (DataW H)) : n ≤ Rows.uptoBulk (.slice ((List.range n).map D) s) := by
  have := bulk_length ((List.range n).map D)
  simp only [List.length_map, List.length_range] at this
  simp only [Rows.uptoBulk]
  omega

theorem cells_value : Tryd.prog.cellsOf 30 = 2 := by kernel_rfl
theorem cells_test : Tryd.prog.cellsOf 32 = 4 := by kernel_rfl
theorem cells_op : Tryd.prog.cellsOf 28 = 8 := by kernel_rfl

set_option maxRecDepth 100000 in
/-- One value out of its cells. -/
theorem open_value {base : Nat} {spare : Nat → Bool} {held : Bool} {n : Nat} {cs : List Value} {x : DataW H × List MemPlace} (h : DataW.trod enc Tryd.prog W base spare held n 30 cs = some x) :
    ∃ a s, in64 a ∧ cs = [.int .i64 a, .string s] := by
  obtain ⟨y0, y1, m, _, hl, h0, h1⟩ := trod_struct2 Tryd.underlying30 h
  rw [cells_value] at hl
  match cs, hl with
  | [v0, v1], _ =>
    have k2 : Tryd.prog.cellsOf 2 = 1 := by kernel_rfl
    have k9 : Tryd.prog.cellsOf 9 = 1 := by kernel_rfl
    obtain ⟨a, e0, _, w0⟩ := DataW.trod_int Tryd.underlying2 h0
    obtain ⟨s, e1, _, _⟩ := DataW.trod_string Tryd.underlying9 h1
    simp [k2] at e0
    simp [k9] at e1
    exact ⟨a, s, bounds_i64 w0, by rw [e0, e1]⟩

set_option maxRecDepth 100000 in
/-- One test out of its cells. -/
theorem open_test {base : Nat} {spare : Nat → Bool} {held : Bool} {n : Nat} {cs : List Value} {x : DataW H × List MemPlace} (h : DataW.trod enc Tryd.prog W base spare held n 32 cs = some x) :
    ∃ t : Tst, in64 t.n ∧ cs = [.int .i64 t.dO, .int .i64 t.col, .int .i64 t.n, .string t.s] := by
  obtain ⟨y0, y1, y2, m, _, hl, h0, h1, h2⟩ := trod_struct3 Tryd.underlying32 h
  rw [cells_test] at hl
  match cs, hl with
  | [v0, v1, v2, v3], _ =>
    have k3 : Tryd.prog.cellsOf 3 = 1 := by kernel_rfl
    obtain ⟨a, e0, _, w0⟩ := DataW.trod_int Tryd.underlying3 h0
    obtain ⟨b, e1, _, w1⟩ := DataW.trod_int Tryd.underlying3 h1
    obtain ⟨c, s, hc, e2⟩ := open_value h2
    simp [k3] at e0 e1
    simp [cells_value] at e2
    exact ⟨⟨a, b, c, s⟩, hc, by rw [e0, e1, e2.1, e2.2]⟩

/-- A row out of its slice. -/
theorem open_row {fuel : Nat} {cs : List Value} {x : DataW H × List MemPlace} (h : DataW.trod enc Tryd.prog W 0 (fun _ => true) true fuel 25 cs = some x) :
    ∃ sa cap, ∃ r : List (Int × ByteArray), cs = [.slice sa r.length cap] ∧ RowA W sa r ∧ RowRg r ∧ r.length ≤ Rows.uptoBulk x.1 := by
  rcases open_slice Tryd.underlying25 h with ⟨hcs, _⟩ | ⟨a, len, cap, m, n, D, Pl, hcs, _, hl, hm, hmm, hxd, hx⟩
  · exact ⟨none, 0, [], hcs, .inl rfl, fun i hi => absurd hi (by simp), by simp⟩
  · have hlm : len ≤ m := by rw [hmm]; simpa using hl
    have each : ∀ i, i < len → ∃ p : Int × ByteArray, in64 p.1 ∧ W.cell? (a.add (i * 2)) = some (.int .i64 p.1) ∧ W.cell? (a.add (i * 2 + 1)) = some (.string p.2) := by
      intro i hi
      obtain ⟨cs', h1, h2⟩ := hx i (by omega)
      rw [cells_value] at h1
      obtain ⟨_, _, hcell⟩ := World.cells?_some h1
      obtain ⟨z, s, hz, rfl⟩ := open_value h2
      have e0 := hcell 0 (by omega)
      have e1 := hcell 1 (by omega)
      rw [add_add] at e0 e1
      exact ⟨(z, s), hz, by simpa using e0, by simpa using e1⟩
    have hI : Inhabited (Int × ByteArray) := ⟨(0, .empty)⟩
    obtain ⟨f, hf⟩ := choose_lt each
    refine ⟨some a, cap, (List.range len).map f, by simpa using hcs, ?_, fun i hi => ?_, by rw [hxd]; simpa using bulk_range len D _⟩
    · by_cases h0 : len = 0
      · left; subst h0; rfl
      · right
        obtain ⟨b, off, spot⟩ := a
        have hspot : spot = none := by simpa [Addr.add] using World.cell?_spot (hf 0 (by omega)).2.1
        subst hspot
        refine ⟨b, off, rfl, fun i hi => ?_⟩
        have hi' : i < len := by simpa using hi
        have := (hf i hi').2
        simp only [addr_add] at this
        simpa [Nat.add_assoc] using this
    · have hi' : i < len := by simpa using hi
      simpa [in64] using (hf i hi').1

/-- Tests out of their slice. -/
theorem open_tests {fuel : Nat} {cs : List Value} {x : DataW H × List MemPlace} (h : DataW.trod enc Tryd.prog W 0 (fun _ => true) true fuel 26 cs = some x) :
    ∃ sa cap, ∃ T : List Tst, cs = [.slice sa T.length cap] ∧ TestsA W sa T ∧ TstRg T ∧ T.length ≤ Rows.uptoBulk x.1 := by
  rcases open_slice Tryd.underlying26 h with ⟨hcs, _⟩ | ⟨a, len, cap, m, n, D, Pl, hcs, _, hl, hm, hmm, hxd, hx⟩
  · exact ⟨none, 0, [], hcs, .inl rfl, fun i hi => absurd hi (by simp), by simp⟩
  · have hlm : len ≤ m := by rw [hmm]; simpa using hl
    have each : ∀ i, i < len → ∃ t : Tst, in64 t.n ∧ W.cell? (a.add (i * 4)) = some (.int .i64 t.dO) ∧ W.cell? (a.add (i * 4 + 1)) = some (.int .i64 t.col) ∧ W.cell? (a.add (i * 4 + 2)) = some (.int .i64 t.n) ∧ W.cell? (a.add (i * 4 + 3)) = some (.string t.s) := by
      intro i hi
      obtain ⟨cs', h1, h2⟩ := hx i (by omega)
      rw [cells_test] at h1
      obtain ⟨_, _, hcell⟩ := World.cells?_some h1
      obtain ⟨t, ht, rfl⟩ := open_test h2
      have e0 := hcell 0 (by omega)
      have e1 := hcell 1 (by omega)
      have e2 := hcell 2 (by omega)
      have e3 := hcell 3 (by omega)
      rw [add_add] at e0 e1 e2 e3
      exact ⟨t, ht, by simpa using e0, by simpa using e1, by simpa using e2, by simpa using e3⟩
    have hI : Inhabited Tst := ⟨⟨0, 0, 0, .empty⟩⟩
    obtain ⟨f, hf⟩ := choose_lt each
    refine ⟨some a, cap, (List.range len).map f, by simpa using hcs, ?_, fun i hi => ?_, by rw [hxd]; simpa using bulk_range len D _⟩
    · by_cases h0 : len = 0
      · left; subst h0; rfl
      · right
        obtain ⟨b, off, spot⟩ := a
        have hspot : spot = none := by simpa [Addr.add] using World.cell?_spot (hf 0 (by omega)).2.1
        subst hspot
        refine ⟨b, off, rfl, fun i hi => ?_⟩
        have hi' : i < len := by simpa using hi
        have := (hf i hi').2
        simp only [addr_add] at this
        simpa [Nat.add_assoc] using this
    · have hi' : i < len := by simpa using hi
      simpa [in64] using (hf i hi').1

/-- A schema out of its slice. -/
theorem open_kinds {fuel : Nat} {cs : List Value} {x : DataW H × List MemPlace} (h : DataW.trod enc Tryd.prog W 0 (fun _ => true) true fuel 24 cs = some x) :
    ∃ sa cap, ∃ ks : List Int, cs = [.slice sa ks.length cap] ∧ KindsA W sa ks ∧ ks.length ≤ Rows.uptoBulk x.1 := by
  rcases open_ints Tryd.underlying24 Tryd.underlying3 (by kernel_rfl) h with ⟨hcs, _⟩ | ⟨a, len, cap, zs, hcs, _, hl, hm, hz, hxd, hcell, hwz⟩
  · exact ⟨none, 0, [], hcs, .inl rfl, by simp⟩
  · have hzl : zs.length = cap := by simpa using hz
    refine ⟨some a, cap, zs.take len, by simpa [show min len zs.length = len by omega] using hcs, ?_, ?_⟩
    rotate_left
    · have hb := bulk_length (H := H) (lits .i64 (zs.take len))
      rw [hxd]
      simp only [Rows.uptoBulk]
      simp only [lits, List.length_map] at hb ⊢
      omega
    by_cases h0 : len = 0
    · left; subst h0; simp
    · right
      obtain ⟨b, off, spot⟩ := a
      have hspot : spot = none := by simpa [Addr.add] using World.cell?_spot (hcell 0 (by omega))
      subst hspot
      refine ⟨b, off, rfl, fun i hi => ?_⟩
      have hi' : i < len := by simp at hi; omega
      have := hcell i (by omega)
      simp [List.getD, show i < zs.length by omega] at this
      rw [addr_add] at this
      simpa using this

set_option maxRecDepth 100000 in
/-- One step out of its cells. -/
theorem open_op {fuel : Nat} {cs : List Value} {x : DataW H × List MemPlace} (h : DataW.trod enc Tryd.prog W 0 (fun _ => true) true fuel 28 cs = some x) :
    ∃ o : OpM, cs = o.cells.toList ∧ KindsA W o.sa o.ks ∧ RowA W o.ra o.r ∧ TestsA W o.ta o.T ∧ RowRg o.r ∧ TstRg o.T ∧ in64 o.kind ∧ in64 o.at' ∧ in64 o.many ∧ o.ks.length ≤ Rows.uptoBulk x.1 ∧ o.r.length ≤ Rows.uptoBulk x.1 ∧ o.T.length ≤ Rows.uptoBulk x.1 := by
  obtain ⟨xs, n, _, rfl, hl, hlen, hf⟩ := DataW.trod_struct Tryd.underlying28 h
  rw [cells_op] at hl
  match xs, hlen, cs, hl with
  | [y0, y1, y2, y3, y4, y5, y6, y7], _, [v0, v1, v2, v3, v4, v5, v6, v7], _ =>
    have k3 : Tryd.prog.cellsOf 3 = 1 := by kernel_rfl
    have k24 : Tryd.prog.cellsOf 24 = 1 := by kernel_rfl
    have k25 : Tryd.prog.cellsOf 25 = 1 := by kernel_rfl
    have k26 : Tryd.prog.cellsOf 26 = 1 := by kernel_rfl
    obtain ⟨a0, e0, _, w0⟩ := DataW.trod_int Tryd.underlying3 (hf 0 _ rfl)
    obtain ⟨a1, e1, _, w1⟩ := DataW.trod_int Tryd.underlying3 (hf 1 _ rfl)
    obtain ⟨a2, e2, _, _⟩ := DataW.trod_int Tryd.underlying3 (hf 2 _ rfl)
    obtain ⟨a3, e3, _, _⟩ := DataW.trod_int Tryd.underlying3 (hf 3 _ rfl)
    obtain ⟨sa, sc, ks, e4, hks, u4⟩ := open_kinds (hf 4 _ rfl)
    obtain ⟨ra, rc, r, e5, hr, hrg, u5⟩ := open_row (hf 5 _ rfl)
    obtain ⟨ta, tc, T, e6, hT, htg, u6⟩ := open_tests (hf 6 _ rfl)
    obtain ⟨a7, e7, _, w7⟩ := DataW.trod_int Tryd.underlying3 (hf 7 _ rfl)
    have hall : ∀ d ∈ [y0.1, y1.1, y2.1, y3.1, y4.1, y5.1, y6.1, y7.1], Rows.uptoBulk d ≤ Rows.uptoBulk (.agg [y0.1, y1.1, y2.1, y3.1, y4.1, y5.1, y6.1, y7.1]) := fun d hd => by
      have := bulk_mem _ d hd
      simp only [Rows.uptoBulk]
      omega
    have m4 : Rows.uptoBulk y4.1 ≤ _ := hall y4.1 (by simp)
    have m5 : Rows.uptoBulk y5.1 ≤ _ := hall y5.1 (by simp)
    have m6 : Rows.uptoBulk y6.1 ≤ _ := hall y6.1 (by simp)
    simp [k3] at e0 e1 e2 e3 e7
    simp [k24] at e4
    simp [k25] at e5
    simp [k26] at e6
    exact ⟨⟨a0, a1, a2, a3, a7, sa, sc, ks, ra, rc, r, ta, tc, T⟩, by rw [e0, e1, e2, e3, e4, e5, e6, e7]; rfl, hks, hr, hT, hrg, htg, bounds_i64 w0, bounds_i64 w1, bounds_i64 w7, Nat.le_trans u4 m4, Nat.le_trans u5 m5, Nat.le_trans u6 m6⟩

/-- The script out of its slice. -/
theorem open_ops {v : Value} {d : DataW H} {p : List MemPlace} {a0 : Option Addr} {len cap : Nat} (hv : v = .slice a0 len cap) (h : DataW.Trod enc Tryd.prog W 0 (fun _ => true) true 22 v d p) (hbulk : Rows.uptoBulk d ≤ 1048576) :
    ∃ ops : List OpM, ops.length = len ∧ OpsA W a0 ops := by
  subst hv
  obtain ⟨fuel, hf⟩ := h
  rcases open_slice Tryd.underlying22 hf with ⟨hcs, _⟩ | ⟨a, l, c, m, n, D, Pl, hcs, _, hl, hm, hmm, hxd, hx⟩
  · simp [Value.cells] at hcs
    obtain ⟨rfl, rfl, rfl⟩ := hcs
    exact ⟨[], rfl, .inl rfl, by simp, by simp⟩
  · simp [Value.cells] at hcs
    obtain ⟨rfl, rfl, rfl⟩ := hcs
    have hlm : len ≤ m := by rw [hmm]; simpa using hl
    have hd : d = .slice ((List.range len).map D) ((List.range (m - len)).map fun j => D (len + j)) := congrArg Prod.fst hxd
    have hlen : len ≤ 1048576 := by
      have := bulk_range len D ((List.range (m - len)).map fun j => D (len + j))
      rw [← hd] at this
      omega
    have each : ∀ i, i < len → ∃ o : OpM, OpOK W o ∧ ∀ j u, o.cells[j]? = some u → W.cell? (a.add (i * 8 + j)) = some u := by
      intro i hi
      obtain ⟨cs', h1, h2⟩ := hx i (by omega)
      rw [cells_op] at h1
      obtain ⟨_, _, hcell⟩ := World.cells?_some h1
      obtain ⟨o, rfl, k1, k2, k3, k4, k5, k6, k7, k8, u1, u2, u3⟩ := open_op h2
      have hDi : Rows.uptoBulk (D i) ≤ 1048576 := by
        have hmem : D i ∈ (List.range len).map D := List.mem_map_of_mem (List.mem_range.2 hi)
        have h3 := bulk_mem _ _ hmem
        rw [hd] at hbulk
        simp only [Rows.uptoBulk] at hbulk
        omega
      have u1' : o.ks.length ≤ 1048576 := Nat.le_trans u1 hDi
      have u2' : o.r.length ≤ 1048576 := Nat.le_trans u2 hDi
      have u3' : o.T.length ≤ 1048576 := Nat.le_trans u3 hDi
      refine ⟨o, ⟨k1, k2, k3, by omega, by omega, by omega, k4, k5, k6, k7, k8⟩, fun j u hj => ?_⟩
      have hj8 : j < 8 := (Array.getElem?_eq_some_iff.1 hj).1
      have e := hcell j hj8
      rw [add_add] at e
      rw [e, ← hj]
      simp
    have hI : Inhabited OpM := ⟨opA⟩
    obtain ⟨f, hf'⟩ := choose_lt each
    refine ⟨(List.range len).map f, by simp, ?_, fun o ho => ?_, by simp; omega⟩
    · by_cases h0 : len = 0
      · left; subst h0; rfl
      · right
        obtain ⟨b, off, spot⟩ := a
        have hspot : spot = none := by simpa [Addr.add] using World.cell?_spot ((hf' 0 (by omega)).2 0 _ rfl)
        subst hspot
        refine ⟨b, off, rfl, fun k hk j u hj => ?_⟩
        have hk' : k < len := by simpa using hk
        have := (hf' k hk').2 j u (by simpa using hj)
        rw [addr_add] at this
        rw [Nat.add_assoc]
        exact this
    · obtain ⟨i, hi, rfl⟩ := List.mem_map.1 ho
      exact (hf' i (List.mem_range.1 hi)).1

end

end Go.Proofs.YtcconhgbefhdeaaDoor

namespace Go.Proofs.YtcconhgbefhdeaaDoor
open Go.ChangeShapes Go.WideShapes Go.RowKit

theorem et_at : Tryd.prog.globalNamed "errors.errorType" = some 0 := by kernel_rfl
theorem rt_at : (Tryd.prog.cutTypes.find? (·.1 == "internal/reflectlite.rtype")).map (·.2) = some 154 := by kernel_rfl
theorem oneRow : ((List.range Tryd.prog.types.size).filter fun t => Tryd.prog.rowNamed t [101, 114, 114, 111, 114]) = [44] := by kernel_rfl

/-- What the laid variable gives. -/
theorem err_of_laid {W : World} (h : laidMetH Tryd.prog Rows.scansUptoRow.laid W) : ErrType W := by
  have h' : laidMet Tryd.prog [] W ∧ handlesMet Tryd.prog Rows.scansUptoRow.laid W := h
  obtain ⟨name, u, ty, e1, e2, e3, e4, e5⟩ := h'.2 _ (List.mem_singleton.2 rfl)
  have en : name = [101, 114, 114, 111, 114] := (Option.some.inj e1).symm
  subst en
  obtain rfl := Option.some.inj (rt_at.symm.trans e2)
  have hm : ty ∈ (List.range Tryd.prog.types.size).filter fun t => Tryd.prog.rowNamed t [101, 114, 114, 111, 114] := List.mem_filter.2 ⟨List.mem_range.2 e3, e4⟩
  rw [oneRow] at hm
  obtain rfl := List.mem_singleton.1 hm
  have hh : typeHandle Tryd.prog 44 = .pointer (some ⟨2, 44, none⟩) := by kernel_rfl
  rw [hh] at e5
  unfold ErrType
  simpa using World.var?_cell et_at e5 0

end Go.Proofs.YtcconhgbefhdeaaDoor

namespace Go.Proofs.YtcconhgbefhdeaaDoor
open Go.RowKit
attribute [local go_sem ↓] Go.wp_at_zero Go.wp_at_succ

def opC : OpM := ⟨5, 0, 0, 1, 0, none, 0, [], none, 0, [], none, 0, []⟩
def opD (g : Nat) : OpM := ⟨4, 0, 0, 0, 0, none, 0, [], none, 0, [], some ⟨g, 0, none⟩, 1, [⟨3, 0, 6, ⟨#[]⟩⟩]⟩

theorem first_three (w : World) : OpsA ((w.alloc (.cells #[.int .i64 3, .int .i64 0, .int .i64 6, .string ⟨#[]⟩] 32)).alloc (.cells #[.int .i64 5, .int .i64 0, .int .i64 0, .int .i64 1, .slice none 0 0, .slice none 0 0, .slice none 0 0, .int .i64 0, .int .i64 4, .int .i64 0, .int .i64 0, .int .i64 0, .slice none 0 0, .slice none 0 0, .slice (some ⟨w.heap.size, 0, none⟩) 1 1, .int .i64 0, .int .i64 3, .int .i64 0, .int .i64 0, .int .i64 0, .slice none 0 0, .slice none 0 0, .slice none 0 0, .int .i64 0] 28)) (some ⟨w.heap.size + 1, 0, none⟩) [opC, opD w.heap.size, opA] := by
  obtain ⟨t1, t2⟩ := two_here w (.cells #[.int .i64 3, .int .i64 0, .int .i64 6, .string ⟨#[]⟩] 32) (.cells #[.int .i64 5, .int .i64 0, .int .i64 0, .int .i64 1, .slice none 0 0, .slice none 0 0, .slice none 0 0, .int .i64 0, .int .i64 4, .int .i64 0, .int .i64 0, .int .i64 0, .slice none 0 0, .slice none 0 0, .slice (some ⟨w.heap.size, 0, none⟩) 1 1, .int .i64 0, .int .i64 3, .int .i64 0, .int .i64 0, .int .i64 0, .slice none 0 0, .slice none 0 0, .slice none 0 0, .int .i64 0] 28)
  refine ⟨.inr ⟨_, 0, rfl, fun k hk j v hj => ?_⟩, fun o ho => ?_, by simp⟩
  · rw [cell_of_row _ _ _ _ _ _ t2]
    have hk2 : k = 0 ∨ k = 1 ∨ k = 2 := by simp at hk; omega
    rcases hk2 with rfl | rfl | rfl
    all_goals
      have hj8 : j < 8 := (Array.getElem?_eq_some_iff.1 hj).1
      have hj9 : j = 0 ∨ j = 1 ∨ j = 2 ∨ j = 3 ∨ j = 4 ∨ j = 5 ∨ j = 6 ∨ j = 7 := by omega
      rcases hj9 with rfl | rfl | rfl | rfl | rfl | rfl | rfl | rfl <;> exact hj
  · have ho2 : o = opC ∨ o = opD w.heap.size ∨ o = opA := by simpa using ho
    rcases ho2 with rfl | rfl | rfl
    · exact ⟨.inl rfl, .inl rfl, .inl rfl, by simp [opC], by simp [opC], by simp [opC], fun i hi => absurd hi (by simp [opC]), fun i hi => absurd hi (by simp [opC]), by simp [opC], by simp [opC], by simp [opC]⟩
    · refine ⟨.inl rfl, .inl rfl, .inr ⟨w.heap.size, 0, rfl, fun i hi => ?_⟩, by simp [opD], by simp [opD], by simp [opD], fun i hi => absurd hi (by simp [opD]), fun i hi => ?_, by simp [opD], by simp [opD], by simp [opD]⟩
      · have hi0 : i = 0 := by simp [opD] at hi; omega
        subst hi0
        rw [cell_of_row _ _ _ _ _ _ t1, cell_of_row _ _ _ _ _ _ t1, cell_of_row _ _ _ _ _ _ t1, cell_of_row _ _ _ _ _ _ t1]
        exact ⟨rfl, rfl, rfl, rfl⟩
      · have hi0 : i = 0 := by simp [opD] at hi; omega
        subst hi0
        simp [opD]
    · exact ⟨.inl rfl, .inl rfl, .inl rfl, by simp [opA], by simp [opA], by simp [opA], fun i hi => absurd hi (by simp [opA]), fun i hi => absurd hi (by simp [opA]), by simp [opA], by simp [opA], by simp [opA]⟩

set_option maxRecDepth 100000 in
set_option maxHeartbeats 1000000 in
theorem folds_all (sa : Option Addr) (cap : Nat) (ops : List OpM) (w : World) (hE : ErrType w) (hops : OpsA w sa ops) :
    Calls Tryd.prog 5 #[.slice sa ops.length cap] w fun e w' => e = .returned (.bool true) ∧ FrS (fun _ => False) w w' := by
  have HO : Hid (OpsA w sa ops) := hops
  clear hops
  go_enter Tryd.func5, Tryd.ntmps5
  have b1 := (Below.refl w.heap.size w).alloc (Nat.le_refl _) (.cells #[.int .i64 3, .int .i64 0, .int .i64 6, .string ⟨#[]⟩] 32)
  have b2 := b1.alloc (by simp) (.cells #[.int .i64 5, .int .i64 0, .int .i64 0, .int .i64 1, .slice none 0 0, .slice none 0 0, .slice none 0 0, .int .i64 0, .int .i64 4, .int .i64 0, .int .i64 0, .int .i64 0, .slice none 0 0, .slice none 0 0, .slice (some ⟨w.heap.size, 0, none⟩) 1 1, .int .i64 0, .int .i64 3, .int .i64 0, .int .i64 0, .int .i64 0, .slice none 0 0, .slice none 0 0, .slice none 0 0, .int .i64 0] 28)
  have hp := plays_five _ 3 _ _ (hE.below b2) (first_three w)
  have HB2 := FrS.of_below (S := fun _ => False) b2
  go_wp2_with fail
  refine hp.mono ?_
  clear hp b1 b2
  rintro e w1 ⟨rfl, hF1⟩
  have hF : FrS (fun _ => False) w w1 := HB2.trans hF1 (fun _ h => h.elim)
  have HF : Hid (FrS (fun _ => False) w w1) := hF
  clear HB2 hF1 hF
  go_wp2_with fail
  refine (plays_five sa cap ops w1 (hE.keep (HF.out.block 0 hE.lt (fun h => h))) (HO.out.keep HF.out)).mono ?_
  rintro e w2 ⟨rfl, hF2⟩
  have HG : Hid (FrS (fun _ => False) w w2) := HF.out.trans hF2 (fun _ h => h.elim)
  clear hF2
  go_wp2
  go_ret
  exact ⟨by simp, HG.out⟩

end Go.Proofs.YtcconhgbefhdeaaDoor

namespace Go.Proofs.YtcconhgbefhdeaaDoor
open Go.ChangeShapes Go.WideShapes Go.ChangeAt Go.RowKit Go.Joins

/-- The door's own heap meets the condition. -/
theorem folds_met (os : Os) (args : Array Value) : laidMetH Tryd.prog Rows.foldsUptoRow.laid ((World.doorLaid Tryd.prog 400 os).forCall (fun _ _ => 0) ⟨#[], args, []⟩).memory :=
  laidMetH_of_parts (laidMet_nil _ _) (by kernel_rfl)

set_option maxRecDepth 100000 in
theorem folds_witness (os : Os) (H : Type) (enc : TypeId × Value → H) : ∃ (w : World) (tape : Tape) (i : Input), w.os = os ∧ (w.forCall tape i).Shaped Tryd.checked.prog ∧ i.vars = [] ∧ Input.okWide Tryd.checked.prog (w.forCall tape i) .any w.heap.size 5 i ∧
    (Rows.OpenSpec.upto Rows.foldsSpec).preRow enc Tryd.checked.prog Tryd.f5 [] false Rows.foldsUptoRow.laid (w.forCall tape i).memory i.args ∧ ({} : Assume).holds Tryd.checked.prog (lone (Frame.enter Tryd.checked.prog 5 i.args .normal) [] (w.forCall tape i)) :=
  have hok : Input.okWideB Tryd.checked.prog ((World.doorLaid Tryd.prog 400 os).forCall (fun _ _ => 0) ⟨#[], #[.slice none 0 0], []⟩) 5 ⟨#[], #[.slice none 0 0], []⟩ = true := by kernel_rfl
  have hx : DataW.whole enc Tryd.checked.prog ((World.doorLaid Tryd.prog 400 os).forCall (fun _ _ => 0) ⟨#[], #[.slice none 0 0], []⟩).memory Tryd.f5.params.toList (Rows.OpenSpec.upto Rows.foldsSpec).vars false (#[Value.slice none 0 0] : Array Value).toList 8 = some ([.nil], [], []) := by kernel_rfl
  ⟨World.doorLaid Tryd.prog 400 os, fun _ _ => 0, ⟨#[], #[.slice none 0 0], []⟩, rfl, World.shaped_of_RefB (by kernel_rfl) (by kernel_rfl), (Input.okWide_of_okWideB (base := 0) hok).1, (Input.okWide_of_okWideB hok).2,
    ⟨⟨(OpenSpec.pre_some (s := Rows.OpenSpec.upto Rows.foldsSpec) (k := Rows.uptoSmall) rfl [] false _ _).2 ⟨[.nil], [], [], DataW.Whole_of_whole hx, rfl, by kernel_rfl⟩, folds_met os _⟩, sizedMet_of_sizedB (fuel := 8) (by kernel_rfl)⟩, by
    simp only [Assume.holds]
    exact ⟨by simp, by simp, fun _ => Modest.zero, by simp, by simp⟩⟩

set_option maxRecDepth 100000 in
theorem folds_lifted (os : Os) (started : os.Started) (H : Type) (enc : TypeId × Value → H) (F : Stop.Interp) :
    ReturnsInHanded {} Tryd.checked os 5 .any ((Rows.OpenSpec.upto Rows.foldsSpec).preRow enc Tryd.checked.prog Tryd.f5 [] false Rows.foldsUptoRow.laid)
      (((Rows.OpenSpec.upto Rows.foldsSpec).at F).post enc Tryd.checked.prog Tryd.f5 false true false false) := by
  refine returnsInHanded_of_row own started (by kernel_rfl) Tryd.func5 (folds_witness os H enc) ?_
  intro W base args ds gs before hval0 hW _ hk _ hL _ _
  have hval : ∀ (j : Nat) t v, Tryd.f5.params[j]? = some t → args[j]? = some v → Value.okWide Tryd.prog W .any base t v := hval0
  have hW' := hW
  obtain ⟨p, q, hA0, hV, rfl, hfz, hnd⟩ := hW
  have hA : DataW.TrodAll enc Tryd.prog W 0 (fun _ => true) true Tryd.f5.params.toList args.toList ds p := hA0
  rw [Tryd.params5] at hA hval
  obtain ⟨v0, d0, rfl, rfl, h0⟩ := trodAll_one hA
  obtain ⟨rfl, rfl⟩ := trodVars_none hV
  obtain ⟨a0, len0, cap0, rfl⟩ := okWide_slice Tryd.underlying22 (hval 0 22 v0 rfl rfl)
  have lt0 : ∀ x ∈ p, x.block < W.heap.size := by obtain ⟨m, hm⟩ := h0; exact DataW.trod_lt m _ _ _ hm
  have hbulk : Rows.uptoBulk d0 ≤ 1048576 := by
    have h1 := hk Rows.uptoSmall rfl
    have h2 : Rows.uptoBulkAll ([d0] ++ []) ≤ 1048576 := of_decide_eq_true h1
    simpa [Rows.uptoBulkAll] using h2
  obtain ⟨ops, rfl, hops⟩ := open_ops rfl h0 hbulk
  clear hA0 hval0
  refine (folds_all a0 cap0 ops W (err_of_laid hL) hops).mono fun e W' ⟨he, hF⟩ => ?_
  subst he
  have bel : Below W.heap.size W W' := hF.below (Nat.le_refl _) (fun _ _ h => h)
  exact ⟨_, rfl, _, _, _, [], _, [], hW', trodAll_mk1 (shut_bool Tryd.underlying4 _),
    trodAll_mk1 (Below.trod laidOut (by kernel_rfl) (of_decide_eq_true (by kernel_rfl)) h0 bel lt0), rfl, bel.frame _, fun h => by cases h⟩

theorem folds_holds : Rows.FoldsUptoSaid :=
  OpenClaim.holds_of_cond 5 Tryd.f5 rfl rfl rfl rfl rfl rfl rfl ⟨rfl, rfl, rfl, rfl, rfl⟩ rfl rfl rfl rfl rfl (by kernel_rfl) Tryd.func5 (by kernel_rfl)
    (of_decide_eq_true (by kernel_rfl)) (by unfold Func.isWrapper; first | (rw [if_pos (by decide +kernel)]; kernel_rfl) | (rw [if_neg (by decide +kernel)]; exact ⟨rfl, rfl⟩))
    (fun os started H enc _ F => by rw [OpenClaim.pre_eq_preRow]; exact folds_lifted os started H enc F)

end Go.Proofs.YtcconhgbefhdeaaDoor

namespace Go.Proofs.YtcconhgbefhdeaaDoor
open Go.ChangeShapes Go.WideShapes Go.ChangeAt Go.RowKit Go.Joins

/-- The tied card. -/
theorem folds_card_holds : Rows.FoldsUptoCardSaid :=
  Claim7.holds_tied_plain_at .later [] [.handle] true _ true
    folds_holds (fun _ h => by cases h) (by kernel_rfl) (fun _ h => by cases h) foldsUpto_row_tie rfl ⟨rfl, rfl⟩ (by kernel_rfl) rfl
    (fun f fn hf hfn => by
      obtain rfl : f = 5 := Option.some.inj ((show Tryd.prog.funcNamed Rows.foldsUptoRow.func = some 5 by kernel_rfl).symm.trans hf) |>.symm
      obtain rfl : fn = Tryd.f5 := (Option.some.inj (Tryd.func5.symm.trans hfn)).symm
      exact ⟨by kernel_rfl, fun j t ht => by
        rw [Tryd.params5] at ht
        have hm : t ∈ [22] := by simpa using Array.mem_of_getElem? ht
        have hall : ([22].all fun u => !Tryd.prog.wantsStandIn u) = true := by kernel_rfl
        exact (show Tryd.prog.wantsStandIn t = false by simpa using List.all_eq_true.1 hall t hm)⟩)
    (by kernel_rfl)

end Go.Proofs.YtcconhgbefhdeaaDoor
