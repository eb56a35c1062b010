import Derived.Test.YtcconhgbefhdeaaDoorMade
import Derived.ProofKit
import Derived.OpenShut
import Derived.Lib.SmallJoins
import Derived.Deep.Slices
namespace Go.Proofs.YtcconhgbefhdeaaDoor
open Go.ChangeShapes Go.WideShapes Go.ChangeAt Go.RowKit Go.Joins Go.Deep

section
variable {H : Type} {enc : TypeId × Value → H} {W : World}

theorem cells_raw : Tryd.prog.cellsOf 36 = 4 := by kernel_rfl

theorem addr_add (b o i : Nat) : (⟨b, o, none⟩ : Addr).add i = ⟨b, o + i, none⟩ := by unfold Addr.add; split <;> simp_all

set_option maxRecDepth 100000 in
/-- One raw row out of its cells. -/
theorem open_raw_cells {base : Nat} {spare : Nat → Bool} {held : Bool} {n : Nat} {cs : List Value} {x : DataW H × List MemPlace} (h : DataW.trod enc Tryd.prog W base spare held n 36 cs = some x) :
    ∃ r : Raw, r.ok ∧ cs = [.int .i64 r.n, .int .i64 r.bits, .string r.s, .int .i64 r.flag] := by
  obtain ⟨y0, y1, y2, y3, m, _, hl, h0, h1, h2, h3⟩ := trod_struct4 Tryd.underlying36 h
  rw [cells_raw] at hl
  match cs, hl with
  | [v0, v1, v2, v3], _ =>
    have k2 : Tryd.prog.cellsOf 2 = 1 := by kernel_rfl
    have k9 : Tryd.prog.cellsOf 9 = 1 := by kernel_rfl
    have k3 : Tryd.prog.cellsOf 3 = 1 := by kernel_rfl
    obtain ⟨a, e0, _, w0⟩ := DataW.trod_int Tryd.underlying2 h0
    obtain ⟨b, e1, _, w1⟩ := DataW.trod_int Tryd.underlying2 h1
    obtain ⟨s, e2, _, _⟩ := DataW.trod_string Tryd.underlying9 h2
    obtain ⟨f, e3, _, w3⟩ := DataW.trod_int Tryd.underlying3 h3
    simp [k2] at e0 e1
    simp [k9] at e2
    simp [k3] at e3
    exact ⟨⟨a, b, s, f⟩, ⟨bounds_i64 w0, bounds_i64 w1, bounds_i64 w3⟩, by rw [e0, e1, e2, e3]⟩

theorem open_raws {v : Value} {d : DataW H} {p : List MemPlace} {a0 : Option Addr} {len cap : Nat} (hv : v = .slice a0 len cap) (h : DataW.Trod enc Tryd.prog W 0 (fun _ => true) true 34 v d p) :
    ∃ R : List Raw, R.length = len ∧ (len : Int) ≤ 9223372036854775807 ∧ (∀ r ∈ R, r.ok) ∧ (R = [] ∨ ∃ b o, a0 = some ⟨b, o, none⟩ ∧ RawsIn W b o R) := by
  subst hv
  obtain ⟨fuel, hf⟩ := h
  rcases open_slice Tryd.underlying34 hf with ⟨hcs, _⟩ | ⟨a, l, c, m, n, D, Pl, hcs, _, hl, hm, hmm, _, hx⟩
  · simp [Value.cells] at hcs
    obtain ⟨rfl, rfl, rfl⟩ := hcs
    exact ⟨[], rfl, by omega, by simp, .inl rfl⟩
  · simp [Value.cells] at hcs
    obtain ⟨rfl, rfl, rfl⟩ := hcs
    have hlm : len ≤ m := by rw [hmm]; simpa using hl
    have hmax : (len : Int) ≤ 9223372036854775807 := by unfold maxLen at hm; omega
    have each : ∀ i, i < len → ∃ r : Raw, r.ok ∧ W.cell? (a.add (i * 4)) = some (.int .i64 r.n) ∧ W.cell? (a.add (i * 4 + 1)) = some (.int .i64 r.bits) ∧ W.cell? (a.add (i * 4 + 2)) = some (.string r.s) ∧ W.cell? (a.add (i * 4 + 3)) = some (.int .i64 r.flag) := by
      intro i hi
      obtain ⟨cs', h1, h2⟩ := hx i (by omega)
      rw [cells_raw] at h1
      obtain ⟨_, _, hcell⟩ := World.cells?_some h1
      obtain ⟨r, hr, rfl⟩ := open_raw_cells h2
      have e0 := hcell 0 (by omega)
      have e1 := hcell 1 (by omega)
      have e2 := hcell 2 (by omega)
      have e3 := hcell 3 (by omega)
      rw [add_add] at e0 e1 e2 e3
      exact ⟨r, hr, by simpa using e0, by simpa using e1, by simpa using e2, by simpa using e3⟩
    have hI : Inhabited Raw := ⟨⟨0, 0, .empty, 0⟩⟩
    obtain ⟨f, hf⟩ := choose_lt each
    refine ⟨(List.range len).map f, by simp, hmax, ?_, ?_⟩
    · intro r hr
      obtain ⟨i, hi, rfl⟩ := List.mem_map.1 hr
      exact (hf i (List.mem_range.1 hi)).1
    · by_cases h0 : len = 0
      · left; subst h0; rfl
      · right
        obtain ⟨b, off, spot⟩ := a
        have hspot : spot = none := by simpa [Addr.add] using World.cell?_spot (hf 0 (by omega)).2.1
        subst hspot
        refine ⟨b, off, rfl, fun i hi => ?_⟩
        have hi' : i < len := by simpa using hi
        have := (hf i hi').2
        simp only [addr_add] at this
        simpa [Nat.add_assoc] using this

theorem open_turns {v : Value} {d : DataW H} {p : List MemPlace} {a0 : Option Addr} {len cap : Nat} (hv : v = .slice a0 len cap) (h : DataW.Trod enc Tryd.prog W 0 (fun _ => true) true 24 v d p) :
    ∃ U : List Int, U.length = len ∧ (len : Int) ≤ 9223372036854775807 ∧ (∀ u ∈ U, in64 u) ∧ (U = [] ∨ ∃ b o, a0 = some ⟨b, o, none⟩ ∧ IntsIn W b o U) := by
  subst hv
  obtain ⟨fuel, hf⟩ := h
  rcases open_ints Tryd.underlying24 Tryd.underlying3 (by kernel_rfl) hf with ⟨hcs, _⟩ | ⟨a, l, c, zs, hcs, _, hl, hm, hz, _, hcell, hwz⟩
  · simp [Value.cells] at hcs
    obtain ⟨rfl, rfl, rfl⟩ := hcs
    exact ⟨[], rfl, by omega, by simp, .inl rfl⟩
  · simp [Value.cells] at hcs
    obtain ⟨rfl, rfl, rfl⟩ := hcs
    have hzl : zs.length = cap := by simpa using hz
    have hmax : (len : Int) ≤ 9223372036854775807 := by unfold maxLen at hm; omega
    refine ⟨zs.take len, by simp; omega, hmax, fun u hu => bounds_i64 (hwz u (List.mem_of_mem_take hu)), ?_⟩
    by_cases h0 : len = 0
    · left; subst h0; simp
    · right
      obtain ⟨b, off, spot⟩ := a
      have hspot : spot = none := by simpa [Addr.add] using World.cell?_spot (hcell 0 (by omega))
      subst hspot
      refine ⟨b, off, rfl, fun i hi => ?_⟩
      have hi' : i < len := by simp at hi; omega
      have := hcell i (by omega)
      simp [List.getD, show i < zs.length by omega] at this
      rw [addr_add] at this
      simpa using this

end

theorem own : ownKnob Tryd.prog.godebug = none := by kernel_rfl
theorem laidOut : laidOutB Tryd.prog = true := by kernel_rfl

end Go.Proofs.YtcconhgbefhdeaaDoor
