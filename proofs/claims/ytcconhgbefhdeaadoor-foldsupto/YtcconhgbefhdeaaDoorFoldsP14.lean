import Derived.Test.YtcconhgbefhdeaaDoorFoldsP13
import Derived.Test.YtcconhgbefhdeaaDoorFoldsP07
import Derived.Test.YtcconhgbefhdeaaDoorFoldsP09
import Derived.Test.YtcconhgbefhdeaaDoorFoldsP03
namespace Go.Proofs.YtcconhgbefhdeaaDoor
open Go.RowKit
attribute [local go_sem ↓] Go.wp_at_zero Go.wp_at_succ

/-- How the World stands amid a step on one table. -/
def AtStep (w0 : World) (wb : Nat) (col0 : Nat → Nat) (n s bt br i : Nat) (wr : World) : Prop :=
  ∃ col' Ts', WorldOK wr wb col' Ts' s ∧ Ts'.length = n ∧ (∃ hi : i < Ts'.length, Ts'[i].bt = bt ∧ Ts'[i].br = br) ∧ (∀ b, b < w0.heap.size → col' b = col0 b) ∧ FrS (fun b => col0 b ≠ 0) w0 wr ∧ BookSame wb w0 wr

theorem atStep_app {w0 wr : World} {wb : Nat} {col0 : Nat → Nat} {n s bt br i : Nat} (h : AtStep w0 wb col0 n s bt br i wr) (hE : ErrType w0) (hc0 : col0 0 = 0) (r : List (Int × ByteArray)) (ra : Option Addr) (cap : Nat) (hin : RowA w0 ra r) (hcol : r ≠ [] → ∀ a, ra = some a → col0 a.block = 0) (hrg : RowRg r) (hl : r.length ≤ 9000000) :
    Calls Tryd.prog 20 #[.pointer (some ⟨bt, 0, none⟩), .pointer (some ⟨br, 0, none⟩), .slice ra r.length cap] wr fun e w' => e = .returned (.bool true) ∧ AtStep w0 wb col0 n s bt br i w' := by
  obtain ⟨col', Ts', hW, hn, ⟨hi, rfl, rfl⟩, hag, hF, hBS⟩ := h
  obtain ⟨hP, hg, hr⟩ := hW.tabs i hi
  have hz := hF.size
  have h0lt := hE.lt
  have hin' : RowA wr ra r ∧ (r ≠ [] → ∀ a, ra = some a → ¬ (col' a.block = 3 + i)) := by
    rcases hin with h0 | ⟨g, zo, rfl, h2⟩
    · exact ⟨.inl h0, fun h => absurd h0 h⟩
    · by_cases hr0 : 0 < r.length
      · have hlt := h2.lt hr0
        have hc := hcol (by intro e; rw [e] at hr0; simp at hr0) _ rfl
        have hc' : col0 g = 0 := hc
        refine ⟨.inr ⟨g, zo, rfl, h2.keep (hF.block g hlt (by simpa using hc'))⟩, fun _ a ha => ?_⟩
        cases ha
        show ¬ col' g = 3 + i
        rw [hag g hlt, hc']; omega
      · have e : r = [] := List.eq_nil_of_length_eq_zero (by omega)
        exact ⟨.inl e, fun h => absurd e h⟩
  refine (appends_any (fun b => col' b = 3 + i) Ts'[i].bt Ts'[i].br Ts'[i].ks Ts'[i].rows r ra cap wr (hE.keep (hF.block 0 h0lt (by simpa using hc0))) hP hg hr.few hin'.1 hin'.2 hl).mono ?_
  rintro e w' ⟨rfl, hP', hF'⟩
  refine ⟨rfl, _, _, hW.turn i hi _ hP' hF' (goodR_after hr hrg), by simpa using hn, ⟨by simpa using hi, ?_, ?_⟩, fun b hb => ?_, ?_, hBS.trans (hW.bookSame hF') hz⟩
  · rw [List.getElem_set_self]
  · rw [List.getElem_set_self]
  · show (if b < wr.heap.size then col' b else 3 + i) = col0 b
    rw [if_pos (by omega)]; exact hag b hb
  · refine hF.trans hF' (fun j hj => ?_)
    by_cases hlt : j < w0.heap.size
    · left
      have hj' : col' j = 3 + i := hj
      rw [← hag j hlt, hj']; omega
    · right; omega

set_option maxRecDepth 100000 in
set_option maxHeartbeats 2000000 in
theorem step_append (wb : Nat) (col : Nat → Nat) (Ts : List Tbl) (s i : Nat) (hi : i < Ts.length) (oat oc on om : Int) (sch tst : Value) (ra : Option Addr) (rcap : Nat) (r : List (Int × ByteArray)) (w : World) (hE : ErrType w) (h : WorldOK w wb col Ts s) (hc0 : col 0 = 0) (hin : RowA w ra r) (hcol : r ≠ [] → ∀ a, ra = some a → col a.block = 0) (hrg : RowRg r) (hl : r.length ≤ 9000000)
    (m1 : -9223372036854775808 ≤ om) (m2 : om ≤ 9223372036854775807) :
    Calls Tryd.prog 22 #[.pointer (some ⟨wb, 0, none⟩), .pointer (some ⟨Ts[i].bt, 0, none⟩), .pointer (some ⟨Ts[i].br, 0, none⟩), .agg #[.int .i64 2, .int .i64 oat, .int .i64 oc, .int .i64 on, sch, .slice ra r.length rcap, tst, .int .i64 om]] w (StepPost wb col s w) := by
  have b0 := (Below.refl w.heap.size w).alloc (Nat.le_refl _) (.cells #[.int .i64 2, .int .i64 oat, .int .i64 oc, .int .i64 on, sch, .slice ra r.length rcap, tst, .int .i64 om] 28)
  have hblk := heap_alloc_new w (.cells #[.int .i64 2, .int .i64 oat, .int .i64 oc, .int .i64 on, sch, .slice ra r.length rcap, tst, .int .i64 om] 28)
  have hS : FrS (fun _ => False) w (w.alloc (.cells #[.int .i64 2, .int .i64 oat, .int .i64 oc, .int .i64 on, sch, .slice ra r.length rcap, tst, .int .i64 om] 28)) := FrS.of_below b0
  have hA : AtStep (w.alloc (.cells #[.int .i64 2, .int .i64 oat, .int .i64 oc, .int .i64 on, sch, .slice ra r.length rcap, tst, .int .i64 om] 28)) wb (fun b => if b < w.heap.size then col b else 0) Ts.length (s + 1) Ts[i].bt Ts[i].br i (w.alloc (.cells #[.int .i64 2, .int .i64 oat, .int .i64 oc, .int .i64 on, sch, .slice ra r.length rcap, tst, .int .i64 om] 28)) :=
    ⟨_, Ts, h.same (Nat.le_succ s) hS, rfl, ⟨hi, rfl, rfl⟩, fun _ _ => rfl, FrS.refl _ _, BookSame.refl _ _⟩
  have hlt0 := hE.lt
  have HT : Hid (0 < Ts.length) := by unfold Hid; omega
  generalize Ts[i].bt = bt at *
  generalize Ts[i].br = br at *
  go_enter Tryd.func22, Tryd.ntmps22
  generalize hw0 : w.alloc (.cells #[.int .i64 2, .int .i64 oat, .int .i64 oc, .int .i64 on, sch, .slice ra r.length rcap, tst, .int .i64 om] 28) = w0 at *
  have z0 : w.heap.size < w0.heap.size := (Array.getElem?_eq_some_iff.1 hblk).1
  have hE0 := hE.below b0
  have hin0 : RowA w0 ra r := hin.keep (fun k hk => b0.block k hk)
  have hcol0 : r ≠ [] → ∀ a, ra = some a → (if a.block < w.heap.size then col a.block else 0) = 0 := fun h1 a h2 => by
    split
    · exact hcol h1 a h2
    · rfl
  have HAPP : Hid (∀ wr, AtStep w0 wb (fun b => if b < w.heap.size then col b else 0) Ts.length (s + 1) bt br i wr → Calls Tryd.prog 20 #[.pointer (some ⟨bt, 0, none⟩), .pointer (some ⟨br, 0, none⟩), .slice ra r.length rcap] wr fun e w' => e = .returned (.bool true) ∧ AtStep w0 wb (fun b => if b < w.heap.size then col b else 0) Ts.length (s + 1) bt br i w') :=
    fun wr h => atStep_app h hE0 (by show (if 0 < w.heap.size then col 0 else 0) = 0; rw [if_pos hlt0]; exact hc0) r ra rcap hin0 hcol0 hrg hl
  have HCELL : Hid (∀ wr, AtStep w0 wb (fun b => if b < w.heap.size then col b else 0) Ts.length (s + 1) bt br i wr → wr.cell? ⟨w.heap.size, 7, none⟩ = some (.int .i64 om) ∧ wr.cell? ⟨w.heap.size, 5, none⟩ = some (.slice ra r.length rcap)) := fun wr h => by
    obtain ⟨col', Ts', _, _, _, _, hF, _⟩ := h
    have e := hF.block w.heap.size z0 (by simp)
    constructor
    · exact (World.cell?_of_block (w := w0) (a := ⟨w.heap.size, 7, none⟩) e).trans (by rw [cell_of_row _ _ _ _ _ _ hblk]; rfl)
    · exact (World.cell?_of_block (w := w0) (a := ⟨w.heap.size, 5, none⟩) e).trans (by rw [cell_of_row _ _ _ _ _ _ hblk]; rfl)
  have HEND : Hid (∀ wr, AtStep w0 wb (fun b => if b < w.heap.size then col b else 0) Ts.length (s + 1) bt br i wr → StepPost wb col s w (.returned (.bool true)) wr) := fun wr h => by
    obtain ⟨col', Ts', a1, a2, _, a3, a4, a5⟩ := h
    refine ⟨rfl, col', Ts', a1, by have := HT.out; omega, fun b hb => ?_, ?_, (BookSame.of_same hS).trans a5 hS.size⟩
    · rw [a3 b (by omega)]; exact if_pos hb
    · refine hS.mono (T := fun b => col b ≠ 0) (fun _ h => h.elim) |>.trans a4 (fun j hj => ?_)
      by_cases hlt : j < w.heap.size
      · left
        have hj' : (if j < w.heap.size then col j else 0) ≠ 0 := hj
        rw [if_pos hlt] at hj'
        exact hj'
      · right; omega
  have HA : Hid (AtStep w0 wb (fun b => if b < w.heap.size then col b else 0) Ts.length (s + 1) bt br i w0) := hA
  have o0 : w0.cell? ⟨w.heap.size, 0, none⟩ = some (.int .i64 2) := by rw [cell_of_row _ _ _ _ _ _ hblk]; rfl
  clear hblk hS hA hin hin0 hcol hcol0
  go_wp2_with fail
  go_loopw [9] (fun x wr => ∃ k : Nat, k ≤ 130 ∧ x = .int .i64 k ∧ AtStep w0 wb (fun b => if b < w.heap.size then col b else 0) Ts.length (s + 1) bt br i wr) (fun x _ => 130 - (intOf x).toNat)
  case atStart => exact ⟨0, by omega, rfl, HA.out⟩
  case round =>
    obtain ⟨k, hk, rfl, hAt⟩ := hrel
    obtain ⟨c7, c5⟩ := HCELL.out wr hAt
    have HAT : Hid (AtStep w0 wb (fun b => if b < w.heap.size then col b else 0) Ts.length (s + 1) bt br i wr) := hAt
    clear hAt
    go_wp2_with fail
    refine (lawPick_any om 130 wr (by omega) (by omega) m1 m2).mono ?_
    rintro e _ ⟨q, rfl, hq, rfl⟩
    by_cases hle : k ≤ q
    · have i1 : (k : Int) ≤ (q : Int) := by omega
      have hap := HAPP.out _ HAT.out
      go_wp2_with fail
      refine hap.mono ?_
      clear hap
      rintro e w2 ⟨rfl, hA2⟩
      go_wp2
      go_roundw
      case rel => exact ⟨k + 1, by omega, by go_num, hA2⟩
      case measure => simp [intOf]; omega
    · have i1 : ¬ (k : Int) ≤ (q : Int) := by omega
      have hend := HEND.out _ HAT.out
      have HE2 : Hid (StepPost wb col s w (.returned (.bool true)) _) := hend
      clear hend
      go_wp2
      go_ret
      exact HE2.out

end Go.Proofs.YtcconhgbefhdeaaDoor

namespace Go.Proofs.YtcconhgbefhdeaaDoor
open Go.RowKit
attribute [local go_sem ↓] Go.wp_at_zero Go.wp_at_succ

/-- A step from a world that only has more. -/
theorem StepPost.from {w w0 w' : World} {wb s : Nat} {col : Nat → Nat} {e : Ending} (hS : FrS (fun _ => False) w w0) (h : StepPost wb (fun b => if b < w.heap.size then col b else 0) s w0 e w') : StepPost wb col s w e w' := by
  obtain ⟨rfl, col', Ts', a1, a2, a3, a4, a5⟩ := h
  have hz := hS.size
  refine ⟨rfl, col', Ts', a1, a2, fun b hb => ?_, ?_, (BookSame.of_same hS).trans a5 hS.size⟩
  · rw [a3 b (by omega)]; exact if_pos hb
  · refine hS.mono (T := fun b => col b ≠ 0) (fun _ h => h.elim) |>.trans a4 (fun j hj => ?_)
    by_cases hlt : j < w.heap.size
    · left
      have hj' : (if j < w.heap.size then col j else 0) ≠ 0 := hj
      rw [if_pos hlt] at hj'
      exact hj'
    · right; omega

set_option maxRecDepth 100000 in
set_option maxHeartbeats 2000000 in
theorem step_scan (wb : Nat) (col : Nat → Nat) (Ts : List Tbl) (s i : Nat) (hi : i < Ts.length) (oat oc on om : Int) (sa : Option Addr) (sl sc : Nat) (ra : Option Addr) (rl rc : Nat) (ta : Option Addr) (tcap : Nat) (T : List Tst) (w : World) (hE : ErrType w) (h : WorldOK w wb col Ts s) (hs : s ≤ 9000000) (hT : TestsA w ta T) (htg : TstRg T) (hl : T.length ≤ 9000000) :
    Calls Tryd.prog 22 #[.pointer (some ⟨wb, 0, none⟩), .pointer (some ⟨Ts[i].bt, 0, none⟩), .pointer (some ⟨Ts[i].br, 0, none⟩), .agg #[.int .i64 3, .int .i64 oat, .int .i64 oc, .int .i64 on, .slice sa sl sc, .slice ra rl rc, .slice ta T.length tcap, .int .i64 om]] w (StepPost wb col s w) := by
  have b0 := (Below.refl w.heap.size w).alloc (Nat.le_refl _) (.cells #[.int .i64 3, .int .i64 oat, .int .i64 oc, .int .i64 on, .slice sa sl sc, .slice ra rl rc, .slice ta T.length tcap, .int .i64 om] 28)
  have hblk := heap_alloc_new w (.cells #[.int .i64 3, .int .i64 oat, .int .i64 oc, .int .i64 on, .slice sa sl sc, .slice ra rl rc, .slice ta T.length tcap, .int .i64 om] 28)
  have hS := FrS.of_below (S := fun _ => False) b0
  have hsc := scans_scan wb _ Ts s i hi oat oc on om (.slice sa sl sc) (.slice ra rl rc) ta tcap T _ (hE.below b0) (h.same (Nat.le_refl s) hS) hs (hT.keep (fun k hk => b0.block k hk)) htg hl
  have HS : Hid (FrS (fun _ => False) w (w.alloc (.cells #[.int .i64 3, .int .i64 oat, .int .i64 oc, .int .i64 on, .slice sa sl sc, .slice ra rl rc, .slice ta T.length tcap, .int .i64 om] 28))) := hS
  clear hS
  generalize Ts[i].bt = bt at *
  generalize Ts[i].br = br at *
  go_enter Tryd.func22, Tryd.ntmps22
  generalize hw0 : w.alloc (.cells #[.int .i64 3, .int .i64 oat, .int .i64 oc, .int .i64 on, .slice sa sl sc, .slice ra rl rc, .slice ta T.length tcap, .int .i64 om] 28) = w0 at *
  have o : ∀ j v, (#[Value.int .i64 3, .int .i64 oat, .int .i64 oc, .int .i64 on, .slice sa sl sc, .slice ra rl rc, .slice ta T.length tcap, .int .i64 om] : Array Value)[j]? = some v → w0.cell? ⟨w.heap.size, j, none⟩ = some v := fun j v hj => by rw [cell_of_row _ _ _ _ _ _ hblk]; exact hj
  have o0 := o 0 _ rfl
  have o1 := o 1 _ rfl
  have o2 := o 2 _ rfl
  have o3 := o 3 _ rfl
  have o4 := o 4 _ rfl
  have o5 := o 5 _ rfl
  have o6 := o 6 _ rfl
  have o7 := o 7 _ rfl
  clear hblk o b0
  go_wp2_with fail
  refine hsc.mono ?_
  clear hsc
  rintro e w1 hp
  have hp2 := StepPost.from HS.out hp
  obtain ⟨rfl, _⟩ := hp
  have HP : Hid (StepPost wb col s w (.returned (.bool true)) w1) := hp2
  clear hp2
  go_wp2
  go_ret
  exact HP.out

end Go.Proofs.YtcconhgbefhdeaaDoor

namespace Go.Proofs.YtcconhgbefhdeaaDoor
open Go.RowKit
attribute [local go_sem ↓] Go.wp_at_zero Go.wp_at_succ

theorem rfilter_not (ks : List Int) (T : List Tst) (R : List RRow) (k : Nat) (h : k < R.length) :
    (R.take (k + 1)).filter (fun p => !passB ks p.r T) = (R.take k).filter (fun p => !passB ks p.r T) ++ (if passB ks R[k].r T then [] else [R[k]]) := by
  rw [List.take_succ_eq_append_getElem h, List.filter_append]
  congr 1
  cases hp : passB ks R[k].r T <;> simp [hp]

theorem rfilter_both (f : RRow → Bool) (L : List RRow) : (L.filter f).length + (L.filter (fun p => !f p)).length = L.length := by
  induction L with
  | nil => rfl
  | cons a L ih => cases h : f a <;> simp [h] <;> omega

set_option maxRecDepth 100000 in
set_option maxHeartbeats 1000000 in
theorem refDelete_ok (tb : Nat) (ks : List Int) (R : List RRow) (sv : Value) (fa : Option Addr) (fc tcap : Nat) (ta : Option Addr) (T : List Tst) (w : World) (h : RefAt w 0 tb ks R sv (.slice fa R.length fc)) (hR : R.length ≤ 1000) (hk : 0 < ks.length) (hty : ∀ x ∈ ks, isTypeB x = true)
    (hrow : ∀ p ∈ R, FitsRow ks p.r ∧ RowRg p.r) (hT : TestsA w ta T) (htg : TstRg T) (hok : (testFault ks T).1 = 0) :
    Calls Tryd.prog 60 #[.pointer (some ⟨tb, 0, none⟩), .slice ta T.length tcap] w fun e w' => ∃ fv', e = .returned (.tuple #[.int .i64 (R.filter (fun p => passB ks p.r T)).length, .int .i64 0, .int .i64 0]) ∧
      RefAt w' 0 tb ks (R.filter (fun p => !passB ks p.r T)) sv fv' ∧ (∀ g, fv'.ownBlock = some g → w.heap.size ≤ g) ∧ Fr [tb] w w' := by
  obtain ⟨i0, hi0, hz0, hz1, hz2⟩ := info_parts info_row
  obtain ⟨sc, scap, rfl, hkin, hsc0, scs, hscs⟩ := h.kinds hk
  have hsc : sc < w.heap.size := hkin.lt hk
  have htb : tb < w.heap.size := (Array.getElem?_eq_some_iff.1 h.blk).1
  have c0 : w.cell? ⟨tb, 0, none⟩ = some (.slice (some ⟨sc, 0, none⟩) ks.length scap) := by rw [cell_of_row _ _ _ _ _ _ h.blk]; rfl
  have c1 : w.cell? ⟨tb, 1, none⟩ = some (.slice fa R.length fc) := by rw [cell_of_row _ _ _ _ _ _ h.blk]; rfl
  have HH : Hid (RRowsAt w 0 (.slice fa R.length fc) R) := h.rows
  have HK : Hid (KindsIn w sc ks) := hkin
  have HT : Hid (TestsA w ta T) := hT
  have HTG : Hid (TstRg T) := htg
  have HV : Hid (ValidT ks T) := testFault_ok ks T hok
  have HR : Hid (∀ p ∈ R, FitsRow ks p.r ∧ RowRg p.r) := hrow
  have HO : Hid ((testFault ks T).1 = 0) := hok
  have HC0 : Hid (w.cell? ⟨tb, 0, none⟩ = some (.slice (some ⟨sc, 0, none⟩) ks.length scap)) := c0
  have HTY : Hid (∀ x ∈ ks, isTypeB x = true) := hty
  have HA : Hid (RefAt w 0 tb ks R (.slice (some ⟨sc, 0, none⟩) ks.length scap) (.slice fa R.length fc)) := h
  clear h hkin hT hrow hscs htg hok c0 hty
  go_enter Tryd.func60, Tryd.ntmps60
  go_wp2_with fail
  refine (refTests_any tb sc scap tcap ta ks T w hk HC0.out HK.out HTY.out HT.out).mono ?_
  rintro e w1 ⟨rfl, hb1⟩
  rw [HO.out]
  have hs1 := hb1.size
  have k1 : w1.cell? ⟨tb, 1, none⟩ = some (.slice fa R.length fc) := (hb1.cell (p := ⟨tb, 1, none⟩) htb).trans c1
  have HC1 : Hid (w.cell? ⟨tb, 1, none⟩ = some (.slice fa R.length fc)) := c1
  clear c1
  go_wp2_with fail
  go_loopw [9, 10] (fun fnd i wr => ∃ k : Nat, k ≤ R.length ∧ i = .int .i64 k ∧ wr.ownsRow w.heap.size 25 1 fnd ((R.take k).filter (fun p => !passB ks p.r T)).length (((R.take k).filter (fun p => !passB ks p.r T)).map rrval) ∧ Below w.heap.size w wr) (fun _ i _ => R.length - (intOf i).toNat)
  case atStart => exact ⟨0, Nat.zero_le _, rfl, by simpa using World.ownsRow_nil _ _ _ _, hb1⟩
  case round =>
    obtain ⟨k, hk', rfl, hM, hB⟩ := hrel
    have d0 : wr.cell? ⟨tb, 1, none⟩ = some (.slice fa R.length fc) := (hB.cell (p := ⟨tb, 1, none⟩) htb).trans HC1.out
    have hz := hB.size
    clear k1
    by_cases hlt : k < R.length
    · obtain ⟨fg, cp, hfe, hfg, hfb, hcells⟩ := HH.out.cell (by omega)
      simp only [Value.slice.injEq, true_and] at hfe
      obtain ⟨rfl, rfl⟩ := hfe
      have d1 : wr.cell? ⟨fg, k, none⟩ = some (.slice (some ⟨R[k].g, 0, none⟩) R[k].r.length R[k].cap) := (hB.cell (p := ⟨fg, k, none⟩) hfg).trans (hcells k hlt)
      obtain ⟨rlo, rin, rcs, rfr, rblk⟩ := HH.out.row R[k] (List.getElem_mem hlt)
      obtain ⟨rfit, rrg⟩ := HR.out R[k] (List.getElem_mem hlt)
      have hrl : R[k].g < w.heap.size := (Array.getElem?_eq_some_iff.1 rblk).1
      have HF : Hid ((R.take (k + 1)).filter (fun p => !passB ks p.r T) = (R.take k).filter (fun p => !passB ks p.r T) ++ (if passB ks R[k].r T then [] else [R[k]])) := rfilter_not ks T R k hlt
      have HY : Hid (∀ W, Below w.heap.size w W → Calls Tryd.prog 78 #[.pointer (some ⟨tb, 0, none⟩), .slice ta T.length tcap, .slice (some ⟨R[k].g, 0, none⟩) R[k].r.length R[k].cap] W fun e w' => e = .returned (.bool (passB ks R[k].r T)) ∧ Below W.heap.size W w') := fun W hW =>
        refYes_any tb sc scap tcap R[k].g R[k].cap ta ks T R[k].r W HV.out rfit rrg HTG.out ((hW.cell (p := ⟨tb, 0, none⟩) htb).trans HC0.out) (HK.out.keep (hW.block sc hsc)) (HT.out.keep (fun j hj => hW.block j hj)) (rin.keep (hW.block _ hrl))
      have hml : ((R.take k).filter (fun p => !passB ks p.r T)).length ≤ k := Nat.le_trans (List.length_filter_le _ _) (by simp; omega)
      have hdv : ∀ o : Obj, (wr.alloc o).cell? ⟨tb, 1, none⟩ = some (.slice (some ⟨fg, 0, none⟩) R.length fc) := fun o => (cell_alloc _ _ _ _ (by omega)).trans d0
      have HRK : Hid (rrval R[k] = .slice (some ⟨R[k].g, 0, none⟩) R[k].r.length R[k].cap) := rfl
      clear hcells rblk rin rfit rrg rlo hdv
      generalize R[k] = p at *
      generalize (R.take k).filter (fun p => !passB ks p.r T) = M at *
      have HM : Hid (wr.ownsRow w.heap.size 25 1 u9 M.length (M.map rrval)) := hM
      clear hM
      cases hp : passB ks p.r T
      · have HP : Hid (passB ks p.r T = false) := hp
        go_wp2_with fail
        refine (HY.out _ hB).mono ?_
        rintro e w2 ⟨rfl, hb2⟩
        rw [HP.out]
        have hs2 := hb2.size
        have BB : Below w.heap.size w w2 := hB.trans (hb2.mono hz)
        have d2 : w2.cell? ⟨tb, 1, none⟩ = some (.slice (some ⟨fg, 0, none⟩) R.length fc) := (hb2.cell (p := ⟨tb, 1, none⟩) (by simp; omega)).trans d0
        have d3 : w2.cell? ⟨fg, k, none⟩ = some (.slice (some ⟨p.g, 0, none⟩) p.r.length p.cap) := (hb2.cell (p := ⟨fg, k, none⟩) (by simp; omega)).trans d1
        have HO2 : Hid (w2.ownsRow w.heap.size 25 1 u9 M.length (M.map rrval)) := ownsRow_below HM.out hb2
        clear d0 d1
        go_wp2_with (at_builtin; refine wpList_append_lies _ rfl _ _ _ rfl w.heap.size 25 i0 _ 1 24 Tryd.underlying39 hi0 hz0 hz1 hz2 rfl (by omega) u9 M.length (M.map rrval) (by rfl) (HO2.out.alloc _) ⟨w2.heap.size, 0, none⟩ 1 1 [.slice (some ⟨p.g, 0, none⟩) p.r.length p.cap] (by rfl) (by rfl) (World.news_of_block (cs := #[.slice (some ⟨p.g, 0, none⟩) p.r.length p.cap]) (t := 25) (fr := (0, 0)) (heap_alloc_new w2 _)) (by simp [Value.oneCell']) (by omega) (by unfold maxLen; omega) (by omega) (by simp; omega) (w2.heap.size + 1) (by simp) ?_; intro gg cp w4 hown4 hgrow hat hlt4)
        go_roundw
        case rel =>
          refine ⟨k + 1, by omega, by go_num, ?_, ?_⟩
          · rw [HF.out, HP.out]; simpa [rrval] using hown4
          · exact Below.grown (BB.alloc (by omega) _) hgrow (by simp; omega) (fun j hj => (HO2.out.lt j hj).1)
        case measure => simp [intOf]; omega
      · have HP : Hid (passB ks p.r T = true) := hp
        go_wp2_with fail
        refine (HY.out _ hB).mono ?_
        rintro e w2 ⟨rfl, hb2⟩
        rw [HP.out]
        have BB : Below w.heap.size w w2 := hB.trans (hb2.mono hz)
        clear d0 d1
        go_wp2
        go_roundw
        case rel =>
          refine ⟨k + 1, by omega, by go_num, ?_, BB⟩
          rw [HF.out, HP.out]; simpa using ownsRow_below HM.out hb2
        case measure => simp [intOf]; omega
    · have : R.take k = R := List.take_of_length_le (by omega)
      rw [this] at hM
      obtain ⟨la, lc, rfl⟩ : ∃ la lc, u9 = .slice la (R.filter (fun p => !passB ks p.r T)).length lc := by
        rcases hM.2 with ⟨h1, h2⟩ | ⟨gg, cp, _, h1, _⟩
        · exact ⟨none, 0, by rw [h1, h2]⟩
        · exact ⟨_, cp, h1⟩
      have hcnt := rfilter_both (fun p => passB ks p.r T) R
      obtain ⟨nn, hnn⟩ : ∃ nn, nn = (R.filter (fun p => !passB ks p.r T)).length := ⟨_, rfl⟩
      have HNN : Hid (nn = (R.filter (fun p => !passB ks p.r T)).length) := hnn
      have HM : Hid (wr.ownsRow w.heap.size 25 1 (.slice la nn lc) nn ((R.filter (fun p => !passB ks p.r T)).map rrval)) := by rw [hnn]; exact hM
      rw [← hnn] at hcnt ⊢
      clear hM
      have hblk : wr.heap[tb]? = some (.cells #[.slice (some ⟨sc, 0, none⟩) ks.length scap, .slice fa R.length fc] 84 (0, 0)) := (hB.block tb htb).trans HA.out.blk
      have f0 : wr.frozen? ⟨tb, 1, none⟩ = false := by simp [World.frozen?, hblk]
      have HBK : Hid (wr.heap[tb]? = some (.cells #[.slice (some ⟨sc, 0, none⟩) ks.length scap, .slice fa R.length fc] 84 (0, 0))) := hblk
      have hw1 : wrap64 ((R.length : Int) - (nn : Int)) = (R.length : Int) - (nn : Int) := by unfold wrap64; omega
      have i1 : ¬ (k : Int) < (R.length : Int) := by omega
      clear hblk this
      go_wp2
      have hz := hB.size
      have hne : ∀ g, g ≠ tb → (wr.setCell ⟨tb, 1, none⟩ (.slice la (R.filter (fun p => !passB ks p.r T)).length lc)).heap[g]? = wr.heap[g]? := fun g hg => heap_setCell_other _ _ _ _ hg
      obtain ⟨sc', scap', he, _, _, scs, hscs⟩ := HA.out.kinds hk
      simp only [Value.slice.injEq, Option.some.injEq, Addr.mk.injEq, and_true, true_and] at he
      obtain ⟨rfl, rfl⟩ := he
      have hsct : sc ≠ tb := fun e => by rw [e, HA.out.blk] at hscs; simp at hscs
      refine bodyPost_ret (v := .tuple #[.int .i64 ((R.length : Int) - ((R.filter (fun p => !passB ks p.r T)).length : Int)), .int .i64 0, .int .i64 0]) (by simp [results, Tryd.results60, go_sem]) rfl ⟨?_, .slice la (R.filter (fun p => !passB ks p.r T)).length lc, ⟨?_, Nat.zero_le _, ?_, ?_⟩, ?_, ?_⟩
      · have hnn := HNN.out
        rw [show (((R.filter (fun p => passB ks p.r T)).length : Nat) : Int) = (R.length : Int) - ((R.filter (fun p => !passB ks p.r T)).length : Int) by omega]
      · exact heap_setCell_same _ _ _ _ _ _ HBK.out
      · refine own_keep2 HA.out.sch (fun g hg => ?_)
        simp only [Value.ownBlock, Option.some.injEq] at hg
        subst hg
        exact (hne _ hsct).trans (hB.block _ hsc)
      · have hm := HM.out
        rw [HNN.out] at hm
        refine ⟨own_keep2 (own_base hm) (fun g hg => hne g ?_), fun p hp => ?_⟩
        · have := (hm.lt g hg).1; omega
        · obtain ⟨_, a2, cs, fr, a3⟩ := HA.out.rows.row p (List.mem_filter.1 hp).1
          have hpl : p.g < w.heap.size := (Array.getElem?_eq_some_iff.1 a3).1
          have hpt : p.g ≠ tb := fun e => by rw [e, HA.out.blk] at a3; simp at a3
          have hbb := (hne _ hpt).trans (hB.block _ hpl)
          exact ⟨Nat.zero_le _, a2.keep hbb, cs, fr, hbb.trans a3⟩
      · intro g hg
        have hm := HM.out
        rw [HNN.out] at hm
        exact (hm.lt g hg).1
      · exact (Fr.of_below hB).setCell (p := ⟨tb, 1, none⟩) (.inl (by simp)) _

set_option maxRecDepth 100000 in
set_option maxHeartbeats 1000000 in
theorem refDelete_bad (base tb : Nat) (ks : List Int) (R : List RRow) (sv fv : Value) (tcap : Nat) (ta : Option Addr) (T : List Tst) (w : World) (h : RefAt w base tb ks R sv fv) (hk : 0 < ks.length) (hty : ∀ x ∈ ks, isTypeB x = true) (hT : TestsA w ta T) (hf : (testFault ks T).1 ≠ 0) :
    Calls Tryd.prog 60 #[.pointer (some ⟨tb, 0, none⟩), .slice ta T.length tcap] w fun e w' => e = .returned (.tuple #[.int .i64 0, .int .i64 (testFault ks T).1, .int .i64 (testFault ks T).2]) ∧ Below w.heap.size w w' := by
  obtain ⟨sc, scap, rfl, hkin, hsc0, scs, hscs⟩ := h.kinds hk
  have c0 : w.cell? ⟨tb, 0, none⟩ = some (.slice (some ⟨sc, 0, none⟩) ks.length scap) := by rw [cell_of_row _ _ _ _ _ _ h.blk]; rfl
  have hne : ((testFault ks T).1 != 0) = true := by rw [bne_iff_ne]; exact hf
  have HC : Hid (Calls Tryd.prog 77 #[.pointer (some ⟨tb, 0, none⟩), .slice ta T.length tcap] w fun e w' => e = .returned (.tuple #[.int .i64 (testFault ks T).1, .int .i64 (testFault ks T).2]) ∧ Below w.heap.size w w') := refTests_any tb sc scap tcap ta ks T w hk c0 hkin hty hT
  clear h hkin hscs c0 hty hT hf
  generalize testFault ks T = f at *
  go_enter Tryd.func60, Tryd.ntmps60
  go_wp2_with fail
  refine HC.out.mono ?_
  rintro e w1 ⟨rfl, hb1⟩
  go_wp2
  exact bodyPost_ret (v := .tuple #[.int .i64 0, .int .i64 f.1, .int .i64 f.2]) (by simp [results, Tryd.results60, go_sem]) rfl ⟨rfl, hb1⟩

end Go.Proofs.YtcconhgbefhdeaaDoor

namespace Go.Proofs.YtcconhgbefhdeaaDoor
open Go.RowKit

/-- Is a value ahead of another one, where the least is asked? -/
def aheadB (k : Int) (a b : Int × ByteArray) : Bool := if k = 2 ∧ (noneB a.1 = true ∨ noneB b.1 = true) then noneB a.1 && !noneB b.1 else decide (orderI k a.1 a.2 b.1 b.2 < 0)

set_option maxRecDepth 100000 in
set_option maxHeartbeats 1000000 in
theorem refAhead_any (k n : Int) (s : ByteArray) (m : Int) (t : ByteArray) (w : World) (n1 : -9223372036854775808 ≤ n) (n2 : n ≤ 9223372036854775807) (m1 : -9223372036854775808 ≤ m) (m2 : m ≤ 9223372036854775807) (hs : s.size ≤ 9000000) :
    Calls Tryd.prog 79 #[.int .i64 k, .agg #[.int .i64 n, .string s], .agg #[.int .i64 m, .string t]] w fun e w' => e = .returned (.bool (aheadB k (n, s) (m, t))) ∧ Below w.heap.size w w' := by
  by_cases h2 : k = 2
  · subst h2
    by_cases hn : noneB n = true
    · have HR : Hid (aheadB 2 (n, s) (m, t) = !noneB m) := by unfold Hid aheadB; rw [if_pos ⟨rfl, .inl hn⟩, hn]; rfl
      cases hm : noneB m
      · go_enter Tryd.func79, Tryd.ntmps79
        go_wp2_with (go_at_call 89; refine (refNone_any _ _ (by assumption) (by assumption)).mono ?_; rintro e w' ⟨rfl, rfl⟩)
        all_goals go_ret
        all_goals exact ⟨ret_bool (by rw [HR.out]; simp_all), ((Below.refl _ _).alloc (Nat.le_refl _) _).alloc (by simp) _⟩
      · go_enter Tryd.func79, Tryd.ntmps79
        go_wp2_with (go_at_call 89; refine (refNone_any _ _ (by assumption) (by assumption)).mono ?_; rintro e w' ⟨rfl, rfl⟩)
        all_goals go_ret
        all_goals exact ⟨ret_bool (by rw [HR.out]; simp_all), ((Below.refl _ _).alloc (Nat.le_refl _) _).alloc (by simp) _⟩
    · have hn' : noneB n = false := by simpa using hn
      by_cases hm : noneB m = true
      · have HR : Hid (aheadB 2 (n, s) (m, t) = false) := by unfold Hid aheadB; rw [if_pos ⟨rfl, .inr hm⟩, hn']; rfl
        clear hn
        go_enter Tryd.func79, Tryd.ntmps79
        go_wp2_with (go_at_call 89; refine (refNone_any _ _ (by assumption) (by assumption)).mono ?_; rintro e w' ⟨rfl, rfl⟩)
        all_goals go_ret
        all_goals exact ⟨ret_bool (by rw [HR.out]), ((Below.refl _ _).alloc (Nat.le_refl _) _).alloc (by simp) _⟩
      · have hm' : noneB m = false := by simpa using hm
        have HR : Hid (aheadB 2 (n, s) (m, t) = decide (orderI 2 n s m t < 0)) := by unfold Hid aheadB; rw [if_neg (by simp [hn', hm'])]
        clear hn hm
        go_enter Tryd.func79, Tryd.ntmps79
        go_wp2_with (first | (go_at_call 89; refine (refNone_any _ _ (by assumption) (by assumption)).mono ?_; rintro e w' ⟨rfl, rfl⟩) | (go_at_call 90; refine (refOrder_any _ _ _ _ _ _ (by assumption) (by assumption) (by assumption) (by assumption) (by assumption)).mono ?_; rintro e w' ⟨rfl, hbl⟩))
        all_goals go_ret
        all_goals exact ⟨ret_bool (by rw [HR.out]), (((Below.refl _ _).alloc (Nat.le_refl _) _).alloc (by simp) _).trans (hbl.mono (by simp; omega))⟩
  · have h2' : (k == 2) = false := by simpa using h2
    have HR : Hid (aheadB k (n, s) (m, t) = decide (orderI k n s m t < 0)) := by unfold Hid aheadB; rw [if_neg (fun h => h2 h.1)]
    clear h2
    go_enter Tryd.func79, Tryd.ntmps79
    go_wp2_with (go_at_call 90; refine (refOrder_any _ _ _ _ _ _ (by assumption) (by assumption) (by assumption) (by assumption) (by assumption)).mono ?_; rintro e w' ⟨rfl, hbl⟩)
    all_goals go_ret
    all_goals exact ⟨ret_bool (by rw [HR.out]), (((Below.refl _ _).alloc (Nat.le_refl _) _).alloc (by simp) _).trans (hbl.mono (by simp; omega))⟩

end Go.Proofs.YtcconhgbefhdeaaDoor
