import Derived.Test.YtcconhgbefhdeaaDoorScansP13
namespace Go.Proofs.YtcconhgbefhdeaaDoor
open Go.RowKit
attribute [local go_sem ↓] Go.wp_at_zero Go.wp_at_succ

/-- How the World stands amid a step on one table. -/
def AtStep (w0 : World) (wb : Nat) (col0 : Nat → Nat) (n s bt br i : Nat) (wr : World) : Prop :=
  ∃ col' Ts', WorldOK wr wb col' Ts' s ∧ Ts'.length = n ∧ (∃ hi : i < Ts'.length, Ts'[i].bt = bt ∧ Ts'[i].br = br) ∧ (∀ b, b < w0.heap.size → col' b = col0 b) ∧ FrS (fun b => col0 b ≠ 0) w0 wr ∧ BookSame wb w0 wr

theorem atStep_app {w0 wr : World} {wb : Nat} {col0 : Nat → Nat} {n s bt br i : Nat} (h : AtStep w0 wb col0 n s bt br i wr) (hE : ErrType w0) (hc0 : col0 0 = 0) (r : List (Int × ByteArray)) (ra : Option Addr) (cap : Nat) (hin : RowA w0 ra r) (hcol : r ≠ [] → ∀ a, ra = some a → col0 a.block = 0) (hrg : RowRg r) (hl : r.length ≤ 9000000) :
    Calls Tryd.prog 20 #[.pointer (some ⟨bt, 0, none⟩), .pointer (some ⟨br, 0, none⟩), .slice ra r.length cap] wr fun e w' => e = .returned (.bool true) ∧ AtStep w0 wb col0 n s bt br i w' := by
  obtain ⟨col', Ts', hW, hn, ⟨hi, rfl, rfl⟩, hag, hF, hBS⟩ := h
  obtain ⟨hP, hg, hr⟩ := hW.tabs i hi
  have hz := hF.size
  have h0lt := hE.lt
  have hin' : RowA wr ra r ∧ (r ≠ [] → ∀ a, ra = some a → ¬ (col' a.block = 3 + i)) := by
    rcases hin with h0 | ⟨g, zo, rfl, h2⟩
    · exact ⟨.inl h0, fun h => absurd h0 h⟩
    · by_cases hr0 : 0 < r.length
      · have hlt := h2.lt hr0
        have hc := hcol (by intro e; rw [e] at hr0; simp at hr0) _ rfl
        have hc' : col0 g = 0 := hc
        refine ⟨.inr ⟨g, zo, rfl, h2.keep (hF.block g hlt (by simpa using hc'))⟩, fun _ a ha => ?_⟩
        cases ha
        show ¬ col' g = 3 + i
        rw [hag g hlt, hc']; omega
      · have e : r = [] := List.eq_nil_of_length_eq_zero (by omega)
        exact ⟨.inl e, fun h => absurd e h⟩
  refine (appends_any (fun b => col' b = 3 + i) Ts'[i].bt Ts'[i].br Ts'[i].ks Ts'[i].rows r ra cap wr (hE.keep (hF.block 0 h0lt (by simpa using hc0))) hP hg hr.few hin'.1 hin'.2 hl).mono ?_
  rintro e w' ⟨rfl, hP', hF'⟩
  refine ⟨rfl, _, _, hW.turn i hi _ hP' hF' (goodR_after hr hrg), by simpa using hn, ⟨by simpa using hi, ?_, ?_⟩, fun b hb => ?_, ?_, hBS.trans (hW.bookSame hF') hz⟩
  · rw [List.getElem_set_self]
  · rw [List.getElem_set_self]
  · show (if b < wr.heap.size then col' b else 3 + i) = col0 b
    rw [if_pos (by omega)]; exact hag b hb
  · refine hF.trans hF' (fun j hj => ?_)
    by_cases hlt : j < w0.heap.size
    · left
      have hj' : col' j = 3 + i := hj
      rw [← hag j hlt, hj']; omega
    · right; omega

set_option maxRecDepth 100000 in
set_option maxHeartbeats 2000000 in
theorem step_append (wb : Nat) (col : Nat → Nat) (Ts : List Tbl) (s i : Nat) (hi : i < Ts.length) (oat oc on om : Int) (sch tst : Value) (ra : Option Addr) (rcap : Nat) (r : List (Int × ByteArray)) (w : World) (hE : ErrType w) (h : WorldOK w wb col Ts s) (hc0 : col 0 = 0) (hin : RowA w ra r) (hcol : r ≠ [] → ∀ a, ra = some a → col a.block = 0) (hrg : RowRg r) (hl : r.length ≤ 9000000)
    (m1 : -9223372036854775808 ≤ om) (m2 : om ≤ 9223372036854775807) :
    Calls Tryd.prog 22 #[.pointer (some ⟨wb, 0, none⟩), .pointer (some ⟨Ts[i].bt, 0, none⟩), .pointer (some ⟨Ts[i].br, 0, none⟩), .agg #[.int .i64 2, .int .i64 oat, .int .i64 oc, .int .i64 on, sch, .slice ra r.length rcap, tst, .int .i64 om]] w (StepPost wb col s w) := by
  have b0 := (Below.refl w.heap.size w).alloc (Nat.le_refl _) (.cells #[.int .i64 2, .int .i64 oat, .int .i64 oc, .int .i64 on, sch, .slice ra r.length rcap, tst, .int .i64 om] 28)
  have hblk := heap_alloc_new w (.cells #[.int .i64 2, .int .i64 oat, .int .i64 oc, .int .i64 on, sch, .slice ra r.length rcap, tst, .int .i64 om] 28)
  have hS : FrS (fun _ => False) w (w.alloc (.cells #[.int .i64 2, .int .i64 oat, .int .i64 oc, .int .i64 on, sch, .slice ra r.length rcap, tst, .int .i64 om] 28)) := FrS.of_below b0
  have hA : AtStep (w.alloc (.cells #[.int .i64 2, .int .i64 oat, .int .i64 oc, .int .i64 on, sch, .slice ra r.length rcap, tst, .int .i64 om] 28)) wb (fun b => if b < w.heap.size then col b else 0) Ts.length (s + 1) Ts[i].bt Ts[i].br i (w.alloc (.cells #[.int .i64 2, .int .i64 oat, .int .i64 oc, .int .i64 on, sch, .slice ra r.length rcap, tst, .int .i64 om] 28)) :=
    ⟨_, Ts, h.same (Nat.le_succ s) hS, rfl, ⟨hi, rfl, rfl⟩, fun _ _ => rfl, FrS.refl _ _, BookSame.refl _ _⟩
  have hlt0 := hE.lt
  have HT : Hid (0 < Ts.length) := by unfold Hid; omega
  generalize Ts[i].bt = bt at *
  generalize Ts[i].br = br at *
  go_enter Tryd.func22, Tryd.ntmps22
  generalize hw0 : w.alloc (.cells #[.int .i64 2, .int .i64 oat, .int .i64 oc, .int .i64 on, sch, .slice ra r.length rcap, tst, .int .i64 om] 28) = w0 at *
  have z0 : w.heap.size < w0.heap.size := (Array.getElem?_eq_some_iff.1 hblk).1
  have hE0 := hE.below b0
  have hin0 : RowA w0 ra r := hin.keep (fun k hk => b0.block k hk)
  have hcol0 : r ≠ [] → ∀ a, ra = some a → (if a.block < w.heap.size then col a.block else 0) = 0 := fun h1 a h2 => by
    split
    · exact hcol h1 a h2
    · rfl
  have HAPP : Hid (∀ wr, AtStep w0 wb (fun b => if b < w.heap.size then col b else 0) Ts.length (s + 1) bt br i wr → Calls Tryd.prog 20 #[.pointer (some ⟨bt, 0, none⟩), .pointer (some ⟨br, 0, none⟩), .slice ra r.length rcap] wr fun e w' => e = .returned (.bool true) ∧ AtStep w0 wb (fun b => if b < w.heap.size then col b else 0) Ts.length (s + 1) bt br i w') :=
    fun wr h => atStep_app h hE0 (by show (if 0 < w.heap.size then col 0 else 0) = 0; rw [if_pos hlt0]; exact hc0) r ra rcap hin0 hcol0 hrg hl
  have HCELL : Hid (∀ wr, AtStep w0 wb (fun b => if b < w.heap.size then col b else 0) Ts.length (s + 1) bt br i wr → wr.cell? ⟨w.heap.size, 7, none⟩ = some (.int .i64 om) ∧ wr.cell? ⟨w.heap.size, 5, none⟩ = some (.slice ra r.length rcap)) := fun wr h => by
    obtain ⟨col', Ts', _, _, _, _, hF, _⟩ := h
    have e := hF.block w.heap.size z0 (by simp)
    constructor
    · exact (World.cell?_of_block (w := w0) (a := ⟨w.heap.size, 7, none⟩) e).trans (by rw [cell_of_row _ _ _ _ _ _ hblk]; rfl)
    · exact (World.cell?_of_block (w := w0) (a := ⟨w.heap.size, 5, none⟩) e).trans (by rw [cell_of_row _ _ _ _ _ _ hblk]; rfl)
  have HEND : Hid (∀ wr, AtStep w0 wb (fun b => if b < w.heap.size then col b else 0) Ts.length (s + 1) bt br i wr → StepPost wb col s w (.returned (.bool true)) wr) := fun wr h => by
    obtain ⟨col', Ts', a1, a2, _, a3, a4, a5⟩ := h
    refine ⟨rfl, col', Ts', a1, by have := HT.out; omega, fun b hb => ?_, ?_, (BookSame.of_same hS).trans a5 hS.size⟩
    · rw [a3 b (by omega)]; exact if_pos hb
    · refine hS.mono (T := fun b => col b ≠ 0) (fun _ h => h.elim) |>.trans a4 (fun j hj => ?_)
      by_cases hlt : j < w.heap.size
      · left
        have hj' : (if j < w.heap.size then col j else 0) ≠ 0 := hj
        rw [if_pos hlt] at hj'
        exact hj'
      · right; omega
  have HA : Hid (AtStep w0 wb (fun b => if b < w.heap.size then col b else 0) Ts.length (s + 1) bt br i w0) := hA
  have o0 : w0.cell? ⟨w.heap.size, 0, none⟩ = some (.int .i64 2) := by rw [cell_of_row _ _ _ _ _ _ hblk]; rfl
  clear hblk hS hA hin hin0 hcol hcol0
  go_wp2_with fail
  go_loopw [9] (fun x wr => ∃ k : Nat, k ≤ 130 ∧ x = .int .i64 k ∧ AtStep w0 wb (fun b => if b < w.heap.size then col b else 0) Ts.length (s + 1) bt br i wr) (fun x _ => 130 - (intOf x).toNat)
  case atStart => exact ⟨0, by omega, rfl, HA.out⟩
  case round =>
    obtain ⟨k, hk, rfl, hAt⟩ := hrel
    obtain ⟨c7, c5⟩ := HCELL.out wr hAt
    have HAT : Hid (AtStep w0 wb (fun b => if b < w.heap.size then col b else 0) Ts.length (s + 1) bt br i wr) := hAt
    clear hAt
    go_wp2_with fail
    refine (lawPick_any om 130 wr (by omega) (by omega) m1 m2).mono ?_
    rintro e _ ⟨q, rfl, hq, rfl⟩
    by_cases hle : k ≤ q
    · have i1 : (k : Int) ≤ (q : Int) := by omega
      have hap := HAPP.out _ HAT.out
      go_wp2_with fail
      refine hap.mono ?_
      clear hap
      rintro e w2 ⟨rfl, hA2⟩
      go_wp2
      go_roundw
      case rel => exact ⟨k + 1, by omega, by go_num, hA2⟩
      case measure => simp [intOf]; omega
    · have i1 : ¬ (k : Int) ≤ (q : Int) := by omega
      have hend := HEND.out _ HAT.out
      have HE2 : Hid (StepPost wb col s w (.returned (.bool true)) _) := hend
      clear hend
      go_wp2
      go_ret
      exact HE2.out

end Go.Proofs.YtcconhgbefhdeaaDoor

namespace Go.Proofs.YtcconhgbefhdeaaDoor
open Go.RowKit
attribute [local go_sem ↓] Go.wp_at_zero Go.wp_at_succ

/-- A step from a world that only has more. -/
theorem StepPost.from {w w0 w' : World} {wb s : Nat} {col : Nat → Nat} {e : Ending} (hS : FrS (fun _ => False) w w0) (h : StepPost wb (fun b => if b < w.heap.size then col b else 0) s w0 e w') : StepPost wb col s w e w' := by
  obtain ⟨rfl, col', Ts', a1, a2, a3, a4, a5⟩ := h
  have hz := hS.size
  refine ⟨rfl, col', Ts', a1, a2, fun b hb => ?_, ?_, (BookSame.of_same hS).trans a5 hS.size⟩
  · rw [a3 b (by omega)]; exact if_pos hb
  · refine hS.mono (T := fun b => col b ≠ 0) (fun _ h => h.elim) |>.trans a4 (fun j hj => ?_)
    by_cases hlt : j < w.heap.size
    · left
      have hj' : (if j < w.heap.size then col j else 0) ≠ 0 := hj
      rw [if_pos hlt] at hj'
      exact hj'
    · right; omega

set_option maxRecDepth 100000 in
set_option maxHeartbeats 2000000 in
theorem step_scan (wb : Nat) (col : Nat → Nat) (Ts : List Tbl) (s i : Nat) (hi : i < Ts.length) (oat oc on om : Int) (sa : Option Addr) (sl sc : Nat) (ra : Option Addr) (rl rc : Nat) (ta : Option Addr) (tcap : Nat) (T : List Tst) (w : World) (hE : ErrType w) (h : WorldOK w wb col Ts s) (hs : s ≤ 9000000) (hT : TestsA w ta T) (htg : TstRg T) (hl : T.length ≤ 9000000) :
    Calls Tryd.prog 22 #[.pointer (some ⟨wb, 0, none⟩), .pointer (some ⟨Ts[i].bt, 0, none⟩), .pointer (some ⟨Ts[i].br, 0, none⟩), .agg #[.int .i64 3, .int .i64 oat, .int .i64 oc, .int .i64 on, .slice sa sl sc, .slice ra rl rc, .slice ta T.length tcap, .int .i64 om]] w (StepPost wb col s w) := by
  have b0 := (Below.refl w.heap.size w).alloc (Nat.le_refl _) (.cells #[.int .i64 3, .int .i64 oat, .int .i64 oc, .int .i64 on, .slice sa sl sc, .slice ra rl rc, .slice ta T.length tcap, .int .i64 om] 28)
  have hblk := heap_alloc_new w (.cells #[.int .i64 3, .int .i64 oat, .int .i64 oc, .int .i64 on, .slice sa sl sc, .slice ra rl rc, .slice ta T.length tcap, .int .i64 om] 28)
  have hS := FrS.of_below (S := fun _ => False) b0
  have hsc := scans_scan wb _ Ts s i hi oat oc on om (.slice sa sl sc) (.slice ra rl rc) ta tcap T _ (hE.below b0) (h.same (Nat.le_refl s) hS) hs (hT.keep (fun k hk => b0.block k hk)) htg hl
  have HS : Hid (FrS (fun _ => False) w (w.alloc (.cells #[.int .i64 3, .int .i64 oat, .int .i64 oc, .int .i64 on, .slice sa sl sc, .slice ra rl rc, .slice ta T.length tcap, .int .i64 om] 28))) := hS
  clear hS
  generalize Ts[i].bt = bt at *
  generalize Ts[i].br = br at *
  go_enter Tryd.func22, Tryd.ntmps22
  generalize hw0 : w.alloc (.cells #[.int .i64 3, .int .i64 oat, .int .i64 oc, .int .i64 on, .slice sa sl sc, .slice ra rl rc, .slice ta T.length tcap, .int .i64 om] 28) = w0 at *
  have o : ∀ j v, (#[Value.int .i64 3, .int .i64 oat, .int .i64 oc, .int .i64 on, .slice sa sl sc, .slice ra rl rc, .slice ta T.length tcap, .int .i64 om] : Array Value)[j]? = some v → w0.cell? ⟨w.heap.size, j, none⟩ = some v := fun j v hj => by rw [cell_of_row _ _ _ _ _ _ hblk]; exact hj
  have o0 := o 0 _ rfl
  have o1 := o 1 _ rfl
  have o2 := o 2 _ rfl
  have o3 := o 3 _ rfl
  have o4 := o 4 _ rfl
  have o5 := o 5 _ rfl
  have o6 := o 6 _ rfl
  have o7 := o 7 _ rfl
  clear hblk o b0
  go_wp2_with fail
  refine hsc.mono ?_
  clear hsc
  rintro e w1 hp
  have hp2 := StepPost.from HS.out hp
  obtain ⟨rfl, _⟩ := hp
  have HP : Hid (StepPost wb col s w (.returned (.bool true)) w1) := hp2
  clear hp2
  go_wp2
  go_ret
  exact HP.out

end Go.Proofs.YtcconhgbefhdeaaDoor

namespace Go.Proofs.YtcconhgbefhdeaaDoor
open Go.RowKit

/-- A step of the script, as it lies in memory. -/
structure OpM where
  kind : Int
  at' : Int
  col : Int
  n : Int
  many : Int
  sa : Option Addr
  sc : Nat
  ks : List Int
  ra : Option Addr
  rc : Nat
  r : List (Int × ByteArray)
  ta : Option Addr
  tc : Nat
  T : List Tst

def OpM.cells (o : OpM) : Array Value := #[.int .i64 o.kind, .int .i64 o.at', .int .i64 o.col, .int .i64 o.n, .slice o.sa o.ks.length o.sc, .slice o.ra o.r.length o.rc, .slice o.ta o.T.length o.tc, .int .i64 o.many]

structure OpOK (w : World) (o : OpM) : Prop where
  ks : KindsA w o.sa o.ks
  row : RowA w o.ra o.r
  tests : TestsA w o.ta o.T
  lk : o.ks.length ≤ 9000000
  lr : o.r.length ≤ 9000000
  lt : o.T.length ≤ 9000000
  rg : RowRg o.r
  tg : TstRg o.T
  kin : -9223372036854775808 ≤ o.kind ∧ o.kind ≤ 9223372036854775807
  ain : -9223372036854775808 ≤ o.at' ∧ o.at' ≤ 9223372036854775807
  min : -9223372036854775808 ≤ o.many ∧ o.many ≤ 9223372036854775807

/-- How the World stands between two steps: all that was there ahead of the script is as it was. -/
def PlayAt (w0 : World) (wb s : Nat) (w : World) : Prop := ∃ col Ts, WorldOK w wb col Ts s ∧ 0 < Ts.length ∧ (∀ b, b < w0.heap.size → col b = 0) ∧ FrS (fun _ => False) w0 w

theorem PlayAt.same {w0 w w' : World} {wb s : Nat} (h : PlayAt w0 wb s w) (hF : FrS (fun _ => False) w w') : PlayAt w0 wb s w' := by
  obtain ⟨col, Ts, a1, a2, a3, a4⟩ := h
  have z := a4.size
  exact ⟨_, Ts, a1.same (Nat.le_refl s) hF, a2, fun b hb => by show (if b < w.heap.size then col b else 0) = 0; rw [if_pos (by omega)]; exact a3 b hb, a4.trans hF (fun _ h => h.elim)⟩

theorem PlayAt.up {w0 w w' : World} {wb s s' : Nat} (h : PlayAt w0 wb s w) (hs : s ≤ s') (hF : FrS (fun _ => False) w w') : PlayAt w0 wb s' w' := by
  obtain ⟨col, Ts, a1, a2, a3, a4⟩ := h
  have z := a4.size
  exact ⟨_, Ts, a1.same hs hF, a2, fun b hb => by show (if b < w.heap.size then col b else 0) = 0; rw [if_pos (by omega)]; exact a3 b hb, a4.trans hF (fun _ h => h.elim)⟩

theorem PlayAt.next {w0 w w' : World} {wb s : Nat} {col col' : Nat → Nat} {Ts' : List Tbl} (a3 : ∀ b, b < w0.heap.size → col b = 0) (a4 : FrS (fun _ => False) w0 w) (h1 : WorldOK w' wb col' Ts' (s + 1)) (h2 : 0 < Ts'.length) (h3 : ∀ b, b < w.heap.size → col' b = col b) (h4 : FrS (fun b => col b ≠ 0) w w') : PlayAt w0 wb (s + 1) w' := by
  have z := a4.size
  refine ⟨col', Ts', h1, h2, fun b hb => (h3 b (by omega)).trans (a3 b hb), ?_⟩
  refine ⟨h4.os.trans a4.os, h4.tape.trans a4.tape, h4.output.trans a4.output, by have := h4.size; omega, fun b hb _ => ?_⟩
  exact (h4.block b (by omega) (by simp [a3 b hb])).trans (a4.block b hb (fun h => h))

theorem play_made {w0 w : World} {wb s : Nat} (h : PlayAt w0 wb s w) (hE : ErrType w0) (hs : s ≤ 9000000) {sa : Option Addr} {ks : List Int} (cap : Nat) (hk : KindsA w0 sa ks) (hl : ks.length ≤ 9000000) :
    Calls Tryd.prog 19 #[.pointer (some ⟨wb, 0, none⟩), .slice sa ks.length cap] w fun e w' => e = .returned (.bool true) ∧ PlayAt w0 wb (s + 1) w' := by
  obtain ⟨col, Ts, a1, a2, a3, a4⟩ := h
  have hE' : ErrType w := hE.keep (a4.block 0 hE.lt (fun h => h))
  have hk' : KindsA w sa ks := hk.keep (fun k hk => a4.block k hk (fun h => h))
  by_cases hf : (schemaFault ks).1 = 0
  · refine (made_good wb col Ts s ks sa cap w hE' a1 hs hk' hl hf).mono ?_
    rintro e w' ⟨rfl, col', bt, br, h1, h2, h3⟩
    rw [if_pos hf] at h1
    exact ⟨rfl, PlayAt.next a3 a4 h1 (by simp) h2 h3⟩
  · refine (made_bad wb col Ts s ks sa cap w hE' a1 hk' hl hf).mono ?_
    rintro e w' ⟨rfl, col', bt, br, h1, h2, h3⟩
    rw [if_neg hf] at h1
    exact ⟨rfl, PlayAt.next a3 a4 h1 a2 h2 h3⟩

theorem own_at {w : World} {base : Nat} {e : TypeId} {v : Value} {n : Nat} {xs : List Value} (h : w.ownsRow base e 1 v n xs) (hn : 0 < n) : ∃ g cp, v = .slice (some ⟨g, 0, none⟩) n cp ∧ ∀ k (hk : k < xs.length), w.cell? ⟨g, k, none⟩ = some xs[k] := by
  obtain ⟨g, cap, hv, _, _⟩ := h.form hn
  refine ⟨g, cap, hv, fun k hk => ?_⟩
  have := h.cells (g := g) (by rw [hv]; rfl) k xs[k] (by simp [hk])
  have hadd : (⟨g, 0, none⟩ : Addr).add k = ⟨g, k, none⟩ := by unfold Addr.add; split <;> simp_all
  rw [hadd] at this
  exact this

/-- A table that a step is on. -/
theorem play_tabs {w0 w : World} {wb s : Nat} (h : PlayAt w0 wb s w) (hE : ErrType w0) (hs : s ≤ 9000000) : ∃ N tg tc rg rc, 0 < N ∧ N ≤ s + 1 ∧ w.cell? ⟨wb, 0, none⟩ = some (.slice (some ⟨tg, 0, none⟩) N tc) ∧ w.cell? ⟨wb, 1, none⟩ = some (.slice (some ⟨rg, 0, none⟩) N rc) ∧ ∀ n, n < N → ∃ bt br, w.cell? ⟨tg, n, none⟩ = some (.pointer (some ⟨bt, 0, none⟩)) ∧ w.cell? ⟨rg, n, none⟩ = some (.pointer (some ⟨br, 0, none⟩)) ∧
    ∀ o : OpM, OpOK w0 o → (o.kind = 2 ∨ o.kind = 3) → ∀ W, FrS (fun _ => False) w W → Calls Tryd.prog 22 #[.pointer (some ⟨wb, 0, none⟩), .pointer (some ⟨bt, 0, none⟩), .pointer (some ⟨br, 0, none⟩), .agg o.cells] W fun e w' => e = .returned (.bool true) ∧ PlayAt w0 wb (s + 1) w' ∧ BookSame wb W w' ∧ (∀ b, w.heap.size ≤ b → b < W.heap.size → w'.heap[b]? = W.heap[b]?) := by
  obtain ⟨col, Ts, a1, a2, a3, a4⟩ := h
  obtain ⟨tv, rv, lv, ov, ls, rws, hb, _⟩ := a1.ex
  have c0 : w.cell? ⟨wb, 0, none⟩ = some tv := by rw [cell_of_row _ _ _ _ _ _ hb.blk]; rfl
  have c1 : w.cell? ⟨wb, 1, none⟩ = some rv := by rw [cell_of_row _ _ _ _ _ _ hb.blk]; rfl
  obtain ⟨tg, tc, htv, ht⟩ := own_at (hb.own 0 (by simp) (by simp)) (by simpa using a2)
  obtain ⟨rg, rc, hrv, hr⟩ := own_at (hb.own 1 (by simp) (by simp)) (by simpa using a2)
  simp only [List.getElem_cons_zero, List.getElem_cons_succ, List.length_map] at htv ht hrv hr
  subst htv hrv
  refine ⟨Ts.length, tg, tc, rg, rc, a2, by have := a1.few; omega, c0, c1, fun n hn => ⟨Ts[n].bt, Ts[n].br, ?_, ?_, fun o ho hk W hF => ?_⟩⟩
  · have := ht n hn; rw [this]; simp [Tbl.pt]
  · have := hr n hn; rw [this]; simp [Tbl.pr]
  · have a4' : FrS (fun _ => False) w0 W := a4.trans hF (fun _ h => h.elim)
    have z4 := a4.size
    have hW := a1.same (Nat.le_refl s) hF
    have a3' : ∀ b, b < w0.heap.size → (fun b => if b < w.heap.size then col b else 0) b = 0 := fun b hb => by show (if b < w.heap.size then col b else 0) = 0; rw [if_pos (by omega)]; exact a3 b hb
    have hE' : ErrType W := hE.keep (a4'.block 0 hE.lt (fun h => h))
    have key : ∀ e w', StepPost wb (fun b => if b < w.heap.size then col b else 0) s W e w' → e = .returned (.bool true) ∧ PlayAt w0 wb (s + 1) w' ∧ BookSame wb W w' ∧ (∀ b, w.heap.size ≤ b → b < W.heap.size → w'.heap[b]? = W.heap[b]?) := fun e w' hp => by
      obtain ⟨rfl, col', Ts', h1, h2, h3, h4, h5⟩ := hp
      exact ⟨rfl, PlayAt.next a3' a4' h1 h2 h3 h4, h5, fun b hb1 hb2 => h4.block b hb2 (by show ¬ (if b < w.heap.size then col b else 0) ≠ 0; rw [if_neg (by omega)]; simp)⟩
    rcases hk with hk | hk
    · have hst := step_append wb _ Ts s n hn o.at' o.col o.n o.many (.slice o.sa o.ks.length o.sc) (.slice o.ta o.T.length o.tc) o.ra o.rc o.r W hE' hW (a3' 0 hE.lt) (ho.row.keep (fun k hk => a4'.block k hk (fun h => h))) (fun h0 a ha => by
        rcases ho.row with e | ⟨g, zo, e, h2⟩
        · exact absurd e h0
        · rw [e] at ha; cases ha
          exact a3' g (h2.lt (by rcases Nat.eq_zero_or_pos o.r.length with h | h
                                 · exact absurd (List.eq_nil_of_length_eq_zero h) h0
                                 · exact h))) ho.rg ho.lr ho.min.1 ho.min.2
      rw [OpM.cells, hk]
      exact hst.mono key
    · have hst := step_scan wb _ Ts s n hn o.at' o.col o.n o.many o.sa o.ks.length o.sc o.ra o.r.length o.rc o.ta o.tc o.T W hE' hW hs (ho.tests.keep (fun k hk => a4'.block k hk (fun h => h))) ho.tg ho.lt
      rw [OpM.cells, hk]
      exact hst.mono key

theorem listIn_of_own {w : World} {base : Nat} {e : TypeId} {v : Value} {xs : List Value} (h : w.ownsRow base e 1 v xs.length xs) : ∃ a c, v = .slice a xs.length c ∧ ListIn w a xs := by
  by_cases h0 : 0 < xs.length
  · obtain ⟨g, cp, hv, hc⟩ := own_at h h0
    exact ⟨_, cp, hv, .inr ⟨g, rfl, hc⟩⟩
  · have e : xs = [] := List.eq_nil_of_length_eq_zero (by omega)
    rcases h.2 with ⟨h1, h2⟩ | ⟨gg, cp, _, h1, _⟩
    · exact ⟨none, 0, by rw [h1, h2], .inl e⟩
    · exact ⟨_, cp, h1, .inl e⟩

theorem play_still {w0 w : World} {wb s : Nat} (h : PlayAt w0 wb s w) (hs : s ≤ 100000000) : Calls Tryd.prog 23 #[.pointer (some ⟨wb, 0, none⟩)] w fun e w' => e = .returned (.bool true) ∧ w' = w := by
  obtain ⟨col, Ts, a1, a2, a3, a4⟩ := h
  obtain ⟨tv, rv, lv, ov, ls, rws, hb, _, kl, kr, _, _, lb, rb⟩ := a1.ex
  have c2 : w.cell? ⟨wb, 2, none⟩ = some lv := by rw [cell_of_row _ _ _ _ _ _ hb.blk]; rfl
  have c3 : w.cell? ⟨wb, 3, none⟩ = some ov := by rw [cell_of_row _ _ _ _ _ _ hb.blk]; rfl
  obtain ⟨la, lc, hlv, hl⟩ := listIn_of_own (hb.own 2 (by simp) (by simp))
  obtain ⟨ra, rc, hrv, hr⟩ := listIn_of_own (hb.own 3 (by simp) (by simp))
  simp only [List.getElem_cons_zero, List.getElem_cons_succ] at hlv hl hrv hr
  subst hlv hrv
  exact still_ok wb lc rc la ra ls rws _ w c2 c3 hl hr (by omega) (by omega) kl kr

end Go.Proofs.YtcconhgbefhdeaaDoor
