import Derived.Test.YtcconhgbefhdeaaDoorMk2
namespace Go.Proofs.YtcconhgbefhdeaaDoor
open Go.RowKit
attribute [local go_sem ↓] Go.wp_at_zero Go.wp_at_succ

/-- How the World stands amid a step on one table. -/
def AtStep (w0 : World) (wb : Nat) (col0 : Nat → Nat) (n s bt br i : Nat) (wr : World) : Prop :=
  ∃ col' Ts', WorldOK wr wb col' Ts' s ∧ Ts'.length = n ∧ (∃ hi : i < Ts'.length, Ts'[i].bt = bt ∧ Ts'[i].br = br) ∧ (∀ b, b < w0.heap.size → col' b = col0 b) ∧ FrS (fun b => col0 b ≠ 0) w0 wr ∧ BookSame wb w0 wr

theorem atStep_app {w0 wr : World} {wb : Nat} {col0 : Nat → Nat} {n s bt br i : Nat} (h : AtStep w0 wb col0 n s bt br i wr) (hE : ErrType w0) (hc0 : col0 0 = 0) (r : List (Int × ByteArray)) (ra : Option Addr) (cap : Nat) (hin : RowA w0 ra r) (hcol : r ≠ [] → ∀ a, ra = some a → col0 a.block = 0) (hrg : RowRg r) (hl : r.length ≤ 9000000) :
    Calls Tryd.prog 20 #[.pointer (some ⟨bt, 0, none⟩), .pointer (some ⟨br, 0, none⟩), .slice ra r.length cap] wr fun e w' => e = .returned (.bool true) ∧ AtStep w0 wb col0 n s bt br i w' := by
  obtain ⟨col', Ts', hW, hn, ⟨hi, rfl, rfl⟩, hag, hF, hBS⟩ := h
  obtain ⟨hP, hg, hr⟩ := hW.tabs i hi
  have hz := hF.size
  have h0lt := hE.lt
  have hin' : RowA wr ra r ∧ (r ≠ [] → ∀ a, ra = some a → ¬ (col' a.block = 3 + i)) := by
    rcases hin with h0 | ⟨g, zo, rfl, h2⟩
    · exact ⟨.inl h0, fun h => absurd h0 h⟩
    · by_cases hr0 : 0 < r.length
      · have hlt := h2.lt hr0
        have hc := hcol (by intro e; rw [e] at hr0; simp at hr0) _ rfl
        have hc' : col0 g = 0 := hc
        refine ⟨.inr ⟨g, zo, rfl, h2.keep (hF.block g hlt (by simpa using hc'))⟩, fun _ a ha => ?_⟩
        cases ha
        show ¬ col' g = 3 + i
        rw [hag g hlt, hc']; omega
      · have e : r = [] := List.eq_nil_of_length_eq_zero (by omega)
        exact ⟨.inl e, fun h => absurd e h⟩
  refine (appends_any (fun b => col' b = 3 + i) Ts'[i].bt Ts'[i].br Ts'[i].ks Ts'[i].rows r ra cap wr (hE.keep (hF.block 0 h0lt (by simpa using hc0))) hP hg hr.few hin'.1 hin'.2 hl).mono ?_
  rintro e w' ⟨rfl, hP', hF'⟩
  refine ⟨rfl, _, _, hW.turn i hi _ hP' hF' (goodR_after hr hrg), by simpa using hn, ⟨by simpa using hi, ?_, ?_⟩, fun b hb => ?_, ?_, hBS.trans (hW.bookSame hF') hz⟩
  · rw [List.getElem_set_self]
  · rw [List.getElem_set_self]
  · show (if b < wr.heap.size then col' b else 3 + i) = col0 b
    rw [if_pos (by omega)]; exact hag b hb
  · refine hF.trans hF' (fun j hj => ?_)
    by_cases hlt : j < w0.heap.size
    · left
      have hj' : col' j = 3 + i := hj
      rw [← hag j hlt, hj']; omega
    · right; omega

set_option maxRecDepth 100000 in
set_option maxHeartbeats 2000000 in
theorem step_append (wb : Nat) (col : Nat → Nat) (Ts : List Tbl) (s i : Nat) (hi : i < Ts.length) (oat oc on om : Int) (sch tst : Value) (ra : Option Addr) (rcap : Nat) (r : List (Int × ByteArray)) (w : World) (hE : ErrType w) (h : WorldOK w wb col Ts s) (hc0 : col 0 = 0) (hin : RowA w ra r) (hcol : r ≠ [] → ∀ a, ra = some a → col a.block = 0) (hrg : RowRg r) (hl : r.length ≤ 9000000)
    (m1 : -9223372036854775808 ≤ om) (m2 : om ≤ 9223372036854775807) :
    Calls Tryd.prog 22 #[.pointer (some ⟨wb, 0, none⟩), .pointer (some ⟨Ts[i].bt, 0, none⟩), .pointer (some ⟨Ts[i].br, 0, none⟩), .agg #[.int .i64 2, .int .i64 oat, .int .i64 oc, .int .i64 on, sch, .slice ra r.length rcap, tst, .int .i64 om]] w (StepPost wb col s w) := by
  have b0 := (Below.refl w.heap.size w).alloc (Nat.le_refl _) (.cells #[.int .i64 2, .int .i64 oat, .int .i64 oc, .int .i64 on, sch, .slice ra r.length rcap, tst, .int .i64 om] 28)
  have hblk := heap_alloc_new w (.cells #[.int .i64 2, .int .i64 oat, .int .i64 oc, .int .i64 on, sch, .slice ra r.length rcap, tst, .int .i64 om] 28)
  have hS : FrS (fun _ => False) w (w.alloc (.cells #[.int .i64 2, .int .i64 oat, .int .i64 oc, .int .i64 on, sch, .slice ra r.length rcap, tst, .int .i64 om] 28)) := FrS.of_below b0
  have hA : AtStep (w.alloc (.cells #[.int .i64 2, .int .i64 oat, .int .i64 oc, .int .i64 on, sch, .slice ra r.length rcap, tst, .int .i64 om] 28)) wb (fun b => if b < w.heap.size then col b else 0) Ts.length (s + 1) Ts[i].bt Ts[i].br i (w.alloc (.cells #[.int .i64 2, .int .i64 oat, .int .i64 oc, .int .i64 on, sch, .slice ra r.length rcap, tst, .int .i64 om] 28)) :=
    ⟨_, Ts, h.same (Nat.le_succ s) hS, rfl, ⟨hi, rfl, rfl⟩, fun _ _ => rfl, FrS.refl _ _, BookSame.refl _ _⟩
  have hlt0 := hE.lt
  have HT : Hid (0 < Ts.length) := by unfold Hid; omega
  generalize Ts[i].bt = bt at *
  generalize Ts[i].br = br at *
  go_enter Tryd.func22, Tryd.ntmps22
  generalize hw0 : w.alloc (.cells #[.int .i64 2, .int .i64 oat, .int .i64 oc, .int .i64 on, sch, .slice ra r.length rcap, tst, .int .i64 om] 28) = w0 at *
  have z0 : w.heap.size < w0.heap.size := (Array.getElem?_eq_some_iff.1 hblk).1
  have hE0 := hE.below b0
  have hin0 : RowA w0 ra r := hin.keep (fun k hk => b0.block k hk)
  have hcol0 : r ≠ [] → ∀ a, ra = some a → (if a.block < w.heap.size then col a.block else 0) = 0 := fun h1 a h2 => by
    split
    · exact hcol h1 a h2
    · rfl
  have HAPP : Hid (∀ wr, AtStep w0 wb (fun b => if b < w.heap.size then col b else 0) Ts.length (s + 1) bt br i wr → Calls Tryd.prog 20 #[.pointer (some ⟨bt, 0, none⟩), .pointer (some ⟨br, 0, none⟩), .slice ra r.length rcap] wr fun e w' => e = .returned (.bool true) ∧ AtStep w0 wb (fun b => if b < w.heap.size then col b else 0) Ts.length (s + 1) bt br i w') :=
    fun wr h => atStep_app h hE0 (by show (if 0 < w.heap.size then col 0 else 0) = 0; rw [if_pos hlt0]; exact hc0) r ra rcap hin0 hcol0 hrg hl
  have HCELL : Hid (∀ wr, AtStep w0 wb (fun b => if b < w.heap.size then col b else 0) Ts.length (s + 1) bt br i wr → wr.cell? ⟨w.heap.size, 7, none⟩ = some (.int .i64 om) ∧ wr.cell? ⟨w.heap.size, 5, none⟩ = some (.slice ra r.length rcap)) := fun wr h => by
    obtain ⟨col', Ts', _, _, _, _, hF, _⟩ := h
    have e := hF.block w.heap.size z0 (by simp)
    constructor
    · exact (World.cell?_of_block (w := w0) (a := ⟨w.heap.size, 7, none⟩) e).trans (by rw [cell_of_row _ _ _ _ _ _ hblk]; rfl)
    · exact (World.cell?_of_block (w := w0) (a := ⟨w.heap.size, 5, none⟩) e).trans (by rw [cell_of_row _ _ _ _ _ _ hblk]; rfl)
  have HEND : Hid (∀ wr, AtStep w0 wb (fun b => if b < w.heap.size then col b else 0) Ts.length (s + 1) bt br i wr → StepPost wb col s w (.returned (.bool true)) wr) := fun wr h => by
    obtain ⟨col', Ts', a1, a2, _, a3, a4, a5⟩ := h
    refine ⟨rfl, col', Ts', a1, by have := HT.out; omega, fun b hb => ?_, ?_, (BookSame.of_same hS).trans a5 hS.size⟩
    · rw [a3 b (by omega)]; exact if_pos hb
    · refine hS.mono (T := fun b => col b ≠ 0) (fun _ h => h.elim) |>.trans a4 (fun j hj => ?_)
      by_cases hlt : j < w.heap.size
      · left
        have hj' : (if j < w.heap.size then col j else 0) ≠ 0 := hj
        rw [if_pos hlt] at hj'
        exact hj'
      · right; omega
  have HA : Hid (AtStep w0 wb (fun b => if b < w.heap.size then col b else 0) Ts.length (s + 1) bt br i w0) := hA
  have o0 : w0.cell? ⟨w.heap.size, 0, none⟩ = some (.int .i64 2) := by rw [cell_of_row _ _ _ _ _ _ hblk]; rfl
  clear hblk hS hA hin hin0 hcol hcol0
  go_wp2_with fail
  go_loopw [9] (fun x wr => ∃ k : Nat, k ≤ 130 ∧ x = .int .i64 k ∧ AtStep w0 wb (fun b => if b < w.heap.size then col b else 0) Ts.length (s + 1) bt br i wr) (fun x _ => 130 - (intOf x).toNat)
  case atStart => exact ⟨0, by omega, rfl, HA.out⟩
  case round =>
    obtain ⟨k, hk, rfl, hAt⟩ := hrel
    obtain ⟨c7, c5⟩ := HCELL.out wr hAt
    have HAT : Hid (AtStep w0 wb (fun b => if b < w.heap.size then col b else 0) Ts.length (s + 1) bt br i wr) := hAt
    clear hAt
    go_wp2_with fail
    refine (lawPick_any om 130 wr (by omega) (by omega) m1 m2).mono ?_
    rintro e _ ⟨q, rfl, hq, rfl⟩
    by_cases hle : k ≤ q
    · have i1 : (k : Int) ≤ (q : Int) := by omega
      have hap := HAPP.out _ HAT.out
      go_wp2_with fail
      refine hap.mono ?_
      clear hap
      rintro e w2 ⟨rfl, hA2⟩
      go_wp2
      go_roundw
      case rel => exact ⟨k + 1, by omega, by go_num, hA2⟩
      case measure => simp [intOf]; omega
    · have i1 : ¬ (k : Int) ≤ (q : Int) := by omega
      have hend := HEND.out _ HAT.out
      have HE2 : Hid (StepPost wb col s w (.returned (.bool true)) _) := hend
      clear hend
      go_wp2
      go_ret
      exact HE2.out

end Go.Proofs.YtcconhgbefhdeaaDoor
