import Derived.Test.YtcconhgbefhdeaaDoorFoldsP14
import Derived.Test.YtcconhgbefhdeaaDoorFoldsP07
import Derived.Test.YtcconhgbefhdeaaDoorFoldsP18
import Derived.Test.YtcconhgbefhdeaaDoorFoldsP11
namespace Go.Proofs.YtcconhgbefhdeaaDoor
open Go.RowKit
attribute [local go_sem ↓] Go.wp_at_zero Go.wp_at_succ

/-- One more value, as the document takes it in. -/
def refStep (kd how : Int) (first : Bool) (a v : Int × ByteArray) : Int × ByteArray :=
  if how = 1 then (wrap64 (a.1 + v.1), a.2) else if first || (how == 2 && aheadB kd v a) || (how == 3 && aheadB kd a v) then v else a
def refAll (kd how : Int) (l : List (Int × ByteArray)) : Int × ByteArray := (l.foldl (fun (p : (Int × ByteArray) × Bool) v => (refStep kd how p.2 p.1 v, false)) ((0, ⟨#[]⟩), true)).1

theorem refAll_flag (kd how : Int) (l : List (Int × ByteArray)) (p : (Int × ByteArray) × Bool) : (l.foldl (fun (p : (Int × ByteArray) × Bool) v => (refStep kd how p.2 p.1 v, false)) p).2 = (p.2 && l.isEmpty) := by
  induction l generalizing p with
  | nil => simp
  | cons a l ih => simp only [List.foldl_cons, ih]; simp
theorem refAll_snoc (kd how : Int) (l : List (Int × ByteArray)) (v : Int × ByteArray) : refAll kd how (l ++ [v]) = refStep kd how l.isEmpty (refAll kd how l) v := by
  unfold refAll
  rw [List.foldl_append]
  simp only [List.foldl_cons, List.foldl_nil]
  rw [refAll_flag]
  simp

theorem refAll_take (kd how : Int) (l : List (Int × ByteArray)) (k : Nat) (h : k < l.length) : refAll kd how (l.take (k + 1)) = refStep kd how (decide (k = 0)) (refAll kd how (l.take k)) l[k] := by
  rw [List.take_succ_eq_append_getElem h, refAll_snoc]
  congr 1
  rw [Bool.eq_iff_iff]
  simp only [List.isEmpty_iff, decide_eq_true_eq, List.take_eq_nil_iff]
  constructor
  · rintro (h1 | h1)
    · exact h1
    · rw [h1] at h; simp at h
  · exact fun h1 => .inl h1

theorem refAll_good (kd how : Int) (P : Int × ByteArray → Prop) (l : List (Int × ByteArray)) (h0 : P (0, ⟨#[]⟩)) (hl : ∀ v ∈ l, P v) (hw : how = 1 → ∀ a v, P a → P v → P (wrap64 (a.1 + v.1), a.2)) (k : Nat) (hk : k ≤ l.length) : P (refAll kd how (l.take k)) := by
  induction k with
  | zero => exact h0
  | succ k ih =>
    have i1 := ih (by omega)
    have i2 := hl _ (List.getElem_mem (show k < l.length by omega))
    rw [refAll_take kd how l k (by omega)]
    unfold refStep
    split
    · exact hw ‹_› _ _ i1 i2
    · split
      · exact i2
      · exact i1

set_option maxRecDepth 100000 in
set_option maxHeartbeats 1000000 in
theorem refFold_ok (tb : Nat) (ks : List Int) (R : List RRow) (sv : Value) (fa : Option Addr) (fc tcap : Nat) (ta : Option Addr) (T : List Tst) (c : Nat) (how : Int) (w : World) (h : RefAt w 0 tb ks R sv (.slice fa R.length fc)) (hR : R.length ≤ 1000) (hk : 0 < ks.length) (hty : ∀ x ∈ ks, isTypeB x = true)
    (hrow : ∀ p ∈ R, FitsRow ks p.r ∧ RowRg p.r) (hT : TestsA w ta T) (htg : TstRg T) (hok : (testFault ks T).1 = 0) (hc : c < ks.length) (hh : how = 1 ∨ how = 2 ∨ how = 3) (hh1 : how = 1 → ks[c] = 1) (vals : List (Int × ByteArray)) (hvals : vals = (R.filter (fun p => passB ks p.r T)).map (fun p => p.r.getD c (0, .empty))) :
    Calls Tryd.prog 61 #[.pointer (some ⟨tb, 0, none⟩), .slice ta T.length tcap, .int .i64 c, .int .i64 how] w fun e w' => e = .returned (.tuple #[vagg (refAll ks[c] how vals), .int .i64 vals.length, .int .i64 0, .int .i64 0]) ∧ Below w.heap.size w w' := by
  obtain ⟨sc, scap, rfl, hkin, _, _, _⟩ := h.kinds hk
  have hsc : sc < w.heap.size := hkin.lt hk
  have htb : tb < w.heap.size := (Array.getElem?_eq_some_iff.1 h.blk).1
  have hbel : ∀ o, Below w.heap.size w (w.alloc o) := fun o => (Below.refl _ _).alloc (Nat.le_refl _) o
  have HSC : Hid (∀ o, Calls Tryd.prog 57 #[.pointer (some ⟨tb, 0, none⟩), .slice ta T.length tcap] (w.alloc o) fun e w' => ∃ v, e = .returned (.tuple #[v, .int .i64 0, .int .i64 0]) ∧
      w'.ownsRow (w.alloc o).heap.size 25 1 v (R.filter (fun p => passB ks p.r T)).length ((R.filter (fun p => passB ks p.r T)).map rrval) ∧ Below (w.alloc o).heap.size (w.alloc o) w') := fun o =>
    refScan_ok 0 tb ks R (.slice (some ⟨sc, 0, none⟩) ks.length scap) fa fc tcap ta T (w.alloc o) (h.keepOn (fun k hf => (hbel o).block k (h.footLt k hf))) hR hk hty hrow (hT.keep (fun k hk => (hbel o).block k hk)) htg hok
  have HA : Hid (RefAt w 0 tb ks R (.slice (some ⟨sc, 0, none⟩) ks.length scap) (.slice fa R.length fc)) := h
  have HK : Hid (KindsIn w sc ks) := hkin
  have hr6 : ∀ p ∈ R, c < p.r.length := fun p hp => by have := (hrow p hp).1.1; omega
  have HRW : Hid (∀ p ∈ R, FitsRow ks p.r ∧ RowRg p.r) := hrow
  have c0 : w.cell? ⟨tb, 0, none⟩ = some (.slice (some ⟨sc, 0, none⟩) ks.length scap) := by rw [cell_of_row _ _ _ _ _ _ h.blk]; rfl
  have ck : w.cell? ⟨sc, c, none⟩ = some (.int .i64 ks[c]) := hkin c hc
  obtain ⟨M, hM⟩ : ∃ M, M = R.filter (fun p => passB ks p.r T) := ⟨_, rfl⟩
  have hMR : ∀ p ∈ M, p ∈ R := fun p hp => by rw [hM] at hp; exact (List.mem_filter.1 hp).1
  have hMl : M.length ≤ 1000 := by have := List.length_filter_le (fun p => passB ks p.r T) R; rw [hM]; omega
  have HMR : Hid (∀ p ∈ M, p ∈ R) := hMR
  rw [← hM] at HSC hvals
  have HVA : Hid (vals = M.map (fun p => p.r.getD c (0, .empty))) := hvals
  have hvl : vals.length = M.length := by rw [hvals, List.length_map]
  rw [hvl]
  have HR6 : Hid (∀ p ∈ R, c < p.r.length) := hr6
  have hc0 : (0 : Int) ≤ (c : Int) := by omega
  have hc1 : (c : Int) < (ks.length : Int) := by omega
  have hc2 : ¬ (c : Int) < 0 := by omega
  have hc3 : ¬ (ks.length : Int) ≤ (c : Int) := by omega
  have hvr : ∀ v ∈ vals, (-9223372036854775808 ≤ v.1 ∧ v.1 ≤ 9223372036854775807) ∧ v.2.size ≤ 1000000 := fun v hv => by
    rw [HVA.out] at hv
    obtain ⟨p, hp, rfl⟩ := List.mem_map.1 hv
    have hcl := HR6.out p (HMR.out p hp)
    have e : p.r.getD c (0, .empty) = p.r[c] := by simp [List.getD, hcl]
    rw [e]
    obtain ⟨hf, hg⟩ := HRW.out p (HMR.out p hp)
    exact ⟨hg c hcl, fits_small hf _ (List.getElem_mem hcl)⟩
  clear h hkin hrow hT htg hok hty hM hMR hvals hvl hr6 hbel
  have HH1 : Hid (how = 1 → ks[c] = 1) := hh1
  clear hh1
  rcases hh with rfl | rfl | rfl
  · go_enter Tryd.func61, Tryd.ntmps61
    go_wp2_with fail
    refine (HSC.out _).mono ?_
    rintro e w1 ⟨v, rfl, hown, hb1⟩
    obtain ⟨la, lc, rfl⟩ : ∃ la lc, v = .slice la M.length lc := by
      rcases hown.2 with ⟨h1, h2⟩ | ⟨gg, cp, _, h1, _⟩
      · exact ⟨none, 0, by rw [h1, h2]⟩
      · exact ⟨_, cp, h1⟩
    have HOW : Hid (w1.ownsRow (w.heap.size + 1) 25 1 (.slice la M.length lc) M.length (M.map rrval)) := by have h := hown; simp only [World.size_alloc] at h; exact h
    have s1 := hb1.size
    simp at s1
    have B1 : Below w.heap.size w w1 := ((Below.refl _ _).alloc (Nat.le_refl _) _).trans (hb1.mono (by simp))
    have RB : Hid (w1.heap[w.heap.size]? = some (.cells #[.int .i64 0, .string ⟨#[]⟩] 30 (0, 0))) := (hb1.block _ (by simp)).trans (heap_alloc_new w _)
    have d0 : w1.cell? ⟨tb, 0, none⟩ = some (.slice (some ⟨sc, 0, none⟩) ks.length scap) := (B1.cell (p := ⟨tb, 0, none⟩) htb).trans c0
    have dk : w1.cell? ⟨sc, c, none⟩ = some (.int .i64 ks[c]) := (B1.cell (p := ⟨sc, c, none⟩) hsc).trans ck
    clear hown hb1
    have hX : ∀ k, k ≤ vals.length → (-9223372036854775808 ≤ (refAll ks[c] 1 (vals.take k)).1 ∧ (refAll ks[c] 1 (vals.take k)).1 ≤ 9223372036854775807) ∧ (refAll ks[c] 1 (vals.take k)).2.size ≤ 1000000 := fun k hk => refAll_good ks[c] 1 (fun v => (-9223372036854775808 ≤ v.1 ∧ v.1 ≤ 9223372036854775807) ∧ v.2.size ≤ 1000000) vals (by decide) hvr (fun _ a v ha hv => by dsimp only at ha ⊢; exact ⟨⟨by unfold wrap64; omega, by unfold wrap64; omega⟩, ha.2⟩) k hk
    have HX : Hid (∀ k, k ≤ vals.length → (-9223372036854775808 ≤ (refAll ks[c] 1 (vals.take k)).1 ∧ (refAll ks[c] 1 (vals.take k)).1 ≤ 9223372036854775807) ∧ (refAll ks[c] 1 (vals.take k)).2.size ≤ 1000000) := hX
    have HVR : Hid (∀ v ∈ vals, (-9223372036854775808 ≤ v.1 ∧ v.1 ≤ 9223372036854775807) ∧ v.2.size ≤ 1000000) := hvr
    have HVL : Hid (vals.length = M.length) := by unfold Hid; rw [HVA.out, List.length_map]
    clear hX hvr
    have HKD : Hid (ks[c] = 1) := by have h := HH1.out; first | exact h trivial | exact h rfl
    rw [HKD.out] at dk HX
    go_wp2_with fail
    have hc4 : decide ((c : Int) < 0) = false := by rw [decide_eq_false_iff_not]; omega
    have hc5 : decide (ks.length ≤ c) = false := by rw [decide_eq_false_iff_not]; omega
    simp only [hc4, hc5, Bool.or_false]
    clear hc4 hc5
    go_loopw [16] (fun x wr => ∃ k : Nat, k ≤ M.length ∧ x = .int .i64 k ∧ wr.heap[w1.heap.size]? = some (.cells #[.int .i64 (refAll 1 1 (vals.take k)).1, .string (refAll 1 1 (vals.take k)).2] 30 (0, 0)) ∧ Fr [w1.heap.size] w1 wr) (fun x _ => M.length - (intOf x).toNat)
    case atStart => exact ⟨0, Nat.zero_le _, rfl, heap_alloc_new w1 _, (Fr.refl _ _).alloc _⟩
    case round =>
      obtain ⟨k, hk', rfl, hbox, hF⟩ := hrel
      have hob : w1.heap.size < wr.heap.size := (Array.getElem?_eq_some_iff.1 hbox).1
      have e0 : wr.cell? ⟨tb, 0, none⟩ = some (.slice (some ⟨sc, 0, none⟩) ks.length scap) := (hF.cell tb 0 (by omega) (by simp; omega)).trans d0
      have ek : wr.cell? ⟨sc, c, none⟩ = some (.int .i64 1) := (hF.cell sc c (by omega) (by simp; omega)).trans dk
      by_cases hlt : k < M.length
      · obtain ⟨g, cp, hv, hglt, _⟩ := HOW.out.form (by omega)
        simp only [Value.slice.injEq, true_and] at hv
        obtain ⟨rfl, rfl⟩ := hv
        have hcell := HOW.out.cells (g := g) rfl k (rrval M[k]) (by simp [hlt])
        have hadd : (⟨g, 0, none⟩ : Addr).add k = ⟨g, k, none⟩ := by unfold Addr.add; split <;> simp_all
        rw [hadd] at hcell
        have hgl : g < w1.heap.size := World.block_lt_of_cell? w1 ⟨g, k, none⟩ hcell
        have x1 : wr.cell? ⟨g, k, none⟩ = some (.slice (some ⟨M[k].g, 0, none⟩) M[k].r.length M[k].cap) := (hF.cell g k hgl (by simp; omega)).trans hcell
        have hmem := HMR.out M[k] (List.getElem_mem hlt)
        obtain ⟨_, rin, rcs, rfr, rblk⟩ := HA.out.rows.row M[k] hmem
        have hpl : M[k].g < w.heap.size := (Array.getElem?_eq_some_iff.1 rblk).1
        have hcr := HR6.out M[k] hmem
        obtain ⟨y1, y2⟩ := (rin.keep ((hF.block M[k].g (by omega) (by simp; omega)).trans (B1.block _ hpl))) c hcr
        have hlv : k < vals.length := by rw [HVL.out]; exact hlt
        have HV : Hid (vals[k] = M[k].r[c]) := by
          unfold Hid
          simp only [HVA.out, List.getElem_map]
          simp [List.getD, hcr]
        have HXT : Hid (refAll 1 1 (vals.take (k + 1)) = refStep 1 1 (decide (k = 0)) (refAll 1 1 (vals.take k)) vals[k]) := refAll_take 1 1 vals k hlv
        have hxr := HX.out k (by rw [HVL.out]; omega)
        have hvv := HVR.out vals[k] (List.getElem_mem hlv)
        rw [HV.out] at hvv HXT
        have hcr' : (c : Int) < (M[k].r.length : Int) := by omega
        clear hcell hadd rin rblk hmem HV hlv
        generalize M[k].r[c] = vc at *
        generalize M[k].r.length = rl at *
        generalize M[k].cap = rc at *
        generalize M[k].g = rg at *
        generalize refAll 1 1 (vals.take k) = X at *
        obtain ⟨vn, vs⟩ := vc
        obtain ⟨xn, xs⟩ := X
        obtain ⟨⟨xr1, xr2⟩, xr3⟩ := hxr
        obtain ⟨⟨vr1, vr2⟩, vr3⟩ := hvv
        dsimp only at xr1 xr2 xr3 vr1 vr2 vr3
        have HBX : Hid (wr.heap[w1.heap.size]? = some (.cells #[.int .i64 xn, .string xs] 30 (0, 0))) := hbox
        have hba : ∀ o, (wr.alloc o).heap[w1.heap.size]? = some (.cells #[.int .i64 xn, .string xs] 30 (0, 0)) := fun o => (Below.heap_alloc _ _ _ hob).trans hbox
        have q0 : ∀ o, (wr.alloc o).cell? ⟨w1.heap.size, 0, none⟩ = some (.int .i64 xn) := fun o => by rw [cell_of_row _ _ _ _ _ _ (hba o)]; rfl
        have q1 : ∀ o, (wr.alloc o).cell? ⟨w1.heap.size, 1, none⟩ = some (.string xs) := fun o => by rw [cell_of_row _ _ _ _ _ _ (hba o)]; rfl
        have e0a : ∀ o, (wr.alloc o).cell? ⟨tb, 0, none⟩ = some (.slice (some ⟨sc, 0, none⟩) ks.length scap) := fun o => (cell_alloc wr o _ _ (by omega)).trans e0
        have eka : ∀ o, (wr.alloc o).cell? ⟨sc, c, none⟩ = some (.int .i64 1) := fun o => (cell_alloc wr o _ _ (by omega)).trans ek
        have i0 : (0 : Int) ≤ (k : Int) := by omega
        have i1 : (k : Int) < (M.length : Int) := by omega
        clear hbox hba
        have f0 : ∀ o, (wr.alloc o).frozen? ⟨w1.heap.size, 0, none⟩ = false := fun o => (frozen_alloc wr o _ _ hob).trans (by simp [World.frozen?, HBX.out])
        have HST : Hid (refAll 1 1 (vals.take (k + 1)) = (wrap64 (xn + vn), xs)) := by
          unfold Hid
          rw [HXT.out]
          rfl
        have HFA : Hid (Fr [w1.heap.size] w1 wr) := hF
        have hmx : Tryd.prog.follows .mixedOrders = true := by kernel_rfl
        clear hF
        go_wp2
        refine ⟨⟨k + 1, by omega, by go_num, ?_, ?_⟩, by simp [intOf]; omega⟩
        · rw [HST.out]
          exact (Below.heap_alloc _ _ _ (by simp [World.setCell]; omega)).trans (heap_setCell_same _ _ _ _ _ _ HBX.out)
        · exact (HFA.out.setCell (p := ⟨w1.heap.size, 0, none⟩) (.inl (by simp)) _).alloc _
      · have hke : k = vals.length := by rw [HVL.out]; omega
        rw [hke, List.take_length] at hbox
        have i1 : ¬ (k : Int) < (M.length : Int) := by omega
        obtain ⟨⟨xn, xs⟩, hX2⟩ : ∃ X, X = refAll 1 1 vals := ⟨_, rfl⟩
        rw [← hX2] at hbox
        have HXX : Hid ((xn, xs) = refAll 1 1 vals) := hX2
        have rb : wr.heap[w.heap.size]? = some (.cells #[.int .i64 0, .string ⟨#[]⟩] 30 (0, 0)) := (hF.block _ (by omega) (by simp; omega)).trans RB.out
        have q0 : wr.cell? ⟨w1.heap.size, 0, none⟩ = some (.int .i64 xn) := by rw [cell_of_row _ _ _ _ _ _ hbox]; rfl
        have q1 : wr.cell? ⟨w1.heap.size, 1, none⟩ = some (.string xs) := by rw [cell_of_row _ _ _ _ _ _ hbox]; rfl
        have k0 : wr.cell? ⟨w.heap.size, 0, none⟩ = some (.int .i64 0) := by rw [cell_of_row _ _ _ _ _ _ rb]; rfl
        have g0 : wr.frozen? ⟨w.heap.size, 0, none⟩ = false := by simp [World.frozen?, rb]
        have k1 : ∀ u, (wr.setCell ⟨w.heap.size, 0, none⟩ u).cell? ⟨w.heap.size, 1, none⟩ = some (.string ⟨#[]⟩) := fun u => by rw [cell_of_row _ _ _ _ _ _ (heap_setCell_same _ _ _ _ _ _ rb)]; rfl
        have g1 : ∀ u, (wr.setCell ⟨w.heap.size, 0, none⟩ u).frozen? ⟨w.heap.size, 1, none⟩ = false := fun u => by simp [World.frozen?, heap_setCell_same _ _ _ _ _ _ rb]
        have HRB2 : Hid (wr.heap[w.heap.size]? = some (.cells #[.int .i64 0, .string ⟨#[]⟩] 30 (0, 0))) := rb
        have BW : Below w.heap.size w wr := B1.trans (hF.below (by omega) (fun i hi => by rw [List.mem_singleton.1 hi]; omega))
        have HBW : Hid (Below w.heap.size w wr) := BW
        clear rb hbox BW hke hX2
        go_wp2
        have hXX : ((wr.setCell ⟨w.heap.size, 0, none⟩ (.int .i64 xn)).setCell ⟨w.heap.size, 1, none⟩ (.string xs)).heap[w.heap.size]? = some (.cells #[.int .i64 xn, .string xs] 30 (0, 0)) := heap_setCell_same _ _ _ _ _ _ (heap_setCell_same _ _ _ _ _ _ HRB2.out)
        have x0 : ((wr.setCell ⟨w.heap.size, 0, none⟩ (.int .i64 xn)).setCell ⟨w.heap.size, 1, none⟩ (.string xs)).cell? ⟨w.heap.size, 0, none⟩ = some (.int .i64 xn) := by rw [cell_of_row _ _ _ _ _ _ hXX]; rfl
        have x1 : ((wr.setCell ⟨w.heap.size, 0, none⟩ (.int .i64 xn)).setCell ⟨w.heap.size, 1, none⟩ (.string xs)).cell? ⟨w.heap.size, 1, none⟩ = some (.string xs) := by rw [cell_of_row _ _ _ _ _ _ hXX]; rfl
        refine bodyPost_ret (v := .tuple #[.agg #[.int .i64 xn, .string xs], .int .i64 M.length, .int .i64 0, .int .i64 0]) (by simp [results, Tryd.results61, go_sem, x0, x1]) rfl ⟨?_, ?_⟩
        · rw [HKD.out, ← HXX.out]; rfl
        · exact (HBW.out.setCell (p := ⟨w.heap.size, 0, none⟩) (Nat.le_refl _) _).setCell (p := ⟨w.heap.size, 1, none⟩) (Nat.le_refl _) _
  · go_enter Tryd.func61, Tryd.ntmps61
    go_wp2_with fail
    refine (HSC.out _).mono ?_
    rintro e w1 ⟨v, rfl, hown, hb1⟩
    obtain ⟨la, lc, rfl⟩ : ∃ la lc, v = .slice la M.length lc := by
      rcases hown.2 with ⟨h1, h2⟩ | ⟨gg, cp, _, h1, _⟩
      · exact ⟨none, 0, by rw [h1, h2]⟩
      · exact ⟨_, cp, h1⟩
    have HOW : Hid (w1.ownsRow (w.heap.size + 1) 25 1 (.slice la M.length lc) M.length (M.map rrval)) := by have h := hown; simp only [World.size_alloc] at h; exact h
    have s1 := hb1.size
    simp at s1
    have B1 : Below w.heap.size w w1 := ((Below.refl _ _).alloc (Nat.le_refl _) _).trans (hb1.mono (by simp))
    have RB : Hid (w1.heap[w.heap.size]? = some (.cells #[.int .i64 0, .string ⟨#[]⟩] 30 (0, 0))) := (hb1.block _ (by simp)).trans (heap_alloc_new w _)
    have d0 : w1.cell? ⟨tb, 0, none⟩ = some (.slice (some ⟨sc, 0, none⟩) ks.length scap) := (B1.cell (p := ⟨tb, 0, none⟩) htb).trans c0
    have dk : w1.cell? ⟨sc, c, none⟩ = some (.int .i64 ks[c]) := (B1.cell (p := ⟨sc, c, none⟩) hsc).trans ck
    clear hown hb1
    have hX : ∀ k, k ≤ vals.length → (-9223372036854775808 ≤ (refAll ks[c] 2 (vals.take k)).1 ∧ (refAll ks[c] 2 (vals.take k)).1 ≤ 9223372036854775807) ∧ (refAll ks[c] 2 (vals.take k)).2.size ≤ 1000000 := fun k hk => refAll_good ks[c] 2 (fun v => (-9223372036854775808 ≤ v.1 ∧ v.1 ≤ 9223372036854775807) ∧ v.2.size ≤ 1000000) vals (by decide) hvr (fun h => by omega) k hk
    have HX : Hid (∀ k, k ≤ vals.length → (-9223372036854775808 ≤ (refAll ks[c] 2 (vals.take k)).1 ∧ (refAll ks[c] 2 (vals.take k)).1 ≤ 9223372036854775807) ∧ (refAll ks[c] 2 (vals.take k)).2.size ≤ 1000000) := hX
    have HVR : Hid (∀ v ∈ vals, (-9223372036854775808 ≤ v.1 ∧ v.1 ≤ 9223372036854775807) ∧ v.2.size ≤ 1000000) := hvr
    have HVL : Hid (vals.length = M.length) := by unfold Hid; rw [HVA.out, List.length_map]
    clear hX hvr
    generalize hkd : ks[c] = kd at *
    have HKD : Hid (ks[c] = kd) := hkd
    clear hkd
    go_wp2_with fail
    have hc4 : decide ((c : Int) < 0) = false := by rw [decide_eq_false_iff_not]; omega
    have hc5 : decide (ks.length ≤ c) = false := by rw [decide_eq_false_iff_not]; omega
    simp only [hc4, hc5, Bool.or_false]
    clear hc4 hc5
    go_loopw [16] (fun x wr => ∃ k : Nat, k ≤ M.length ∧ x = .int .i64 k ∧ wr.heap[w1.heap.size]? = some (.cells #[.int .i64 (refAll kd 2 (vals.take k)).1, .string (refAll kd 2 (vals.take k)).2] 30 (0, 0)) ∧ Fr [w1.heap.size] w1 wr) (fun x _ => M.length - (intOf x).toNat)
    case atStart => exact ⟨0, Nat.zero_le _, rfl, heap_alloc_new w1 _, (Fr.refl _ _).alloc _⟩
    case round =>
      obtain ⟨k, hk', rfl, hbox, hF⟩ := hrel
      have hob : w1.heap.size < wr.heap.size := (Array.getElem?_eq_some_iff.1 hbox).1
      have e0 : wr.cell? ⟨tb, 0, none⟩ = some (.slice (some ⟨sc, 0, none⟩) ks.length scap) := (hF.cell tb 0 (by omega) (by simp; omega)).trans d0
      have ek : wr.cell? ⟨sc, c, none⟩ = some (.int .i64 kd) := (hF.cell sc c (by omega) (by simp; omega)).trans dk
      by_cases hlt : k < M.length
      · obtain ⟨g, cp, hv, hglt, _⟩ := HOW.out.form (by omega)
        simp only [Value.slice.injEq, true_and] at hv
        obtain ⟨rfl, rfl⟩ := hv
        have hcell := HOW.out.cells (g := g) rfl k (rrval M[k]) (by simp [hlt])
        have hadd : (⟨g, 0, none⟩ : Addr).add k = ⟨g, k, none⟩ := by unfold Addr.add; split <;> simp_all
        rw [hadd] at hcell
        have hgl : g < w1.heap.size := World.block_lt_of_cell? w1 ⟨g, k, none⟩ hcell
        have x1 : wr.cell? ⟨g, k, none⟩ = some (.slice (some ⟨M[k].g, 0, none⟩) M[k].r.length M[k].cap) := (hF.cell g k hgl (by simp; omega)).trans hcell
        have hmem := HMR.out M[k] (List.getElem_mem hlt)
        obtain ⟨_, rin, rcs, rfr, rblk⟩ := HA.out.rows.row M[k] hmem
        have hpl : M[k].g < w.heap.size := (Array.getElem?_eq_some_iff.1 rblk).1
        have hcr := HR6.out M[k] hmem
        obtain ⟨y1, y2⟩ := (rin.keep ((hF.block M[k].g (by omega) (by simp; omega)).trans (B1.block _ hpl))) c hcr
        have hlv : k < vals.length := by rw [HVL.out]; exact hlt
        have HV : Hid (vals[k] = M[k].r[c]) := by
          unfold Hid
          simp only [HVA.out, List.getElem_map]
          simp [List.getD, hcr]
        have HXT : Hid (refAll kd 2 (vals.take (k + 1)) = refStep kd 2 (decide (k = 0)) (refAll kd 2 (vals.take k)) vals[k]) := refAll_take kd 2 vals k hlv
        have hxr := HX.out k (by rw [HVL.out]; omega)
        have hvv := HVR.out vals[k] (List.getElem_mem hlv)
        rw [HV.out] at hvv HXT
        have hcr' : (c : Int) < (M[k].r.length : Int) := by omega
        clear hcell hadd rin rblk hmem HV hlv
        generalize M[k].r[c] = vc at *
        generalize M[k].r.length = rl at *
        generalize M[k].cap = rc at *
        generalize M[k].g = rg at *
        generalize refAll kd 2 (vals.take k) = X at *
        obtain ⟨vn, vs⟩ := vc
        obtain ⟨xn, xs⟩ := X
        obtain ⟨⟨xr1, xr2⟩, xr3⟩ := hxr
        obtain ⟨⟨vr1, vr2⟩, vr3⟩ := hvv
        dsimp only at xr1 xr2 xr3 vr1 vr2 vr3
        have HBX : Hid (wr.heap[w1.heap.size]? = some (.cells #[.int .i64 xn, .string xs] 30 (0, 0))) := hbox
        have hba : ∀ o, (wr.alloc o).heap[w1.heap.size]? = some (.cells #[.int .i64 xn, .string xs] 30 (0, 0)) := fun o => (Below.heap_alloc _ _ _ hob).trans hbox
        have q0 : ∀ o, (wr.alloc o).cell? ⟨w1.heap.size, 0, none⟩ = some (.int .i64 xn) := fun o => by rw [cell_of_row _ _ _ _ _ _ (hba o)]; rfl
        have q1 : ∀ o, (wr.alloc o).cell? ⟨w1.heap.size, 1, none⟩ = some (.string xs) := fun o => by rw [cell_of_row _ _ _ _ _ _ (hba o)]; rfl
        have e0a : ∀ o, (wr.alloc o).cell? ⟨tb, 0, none⟩ = some (.slice (some ⟨sc, 0, none⟩) ks.length scap) := fun o => (cell_alloc wr o _ _ (by omega)).trans e0
        have eka : ∀ o, (wr.alloc o).cell? ⟨sc, c, none⟩ = some (.int .i64 kd) := fun o => (cell_alloc wr o _ _ (by omega)).trans ek
        have i0 : (0 : Int) ≤ (k : Int) := by omega
        have i1 : (k : Int) < (M.length : Int) := by omega
        clear hbox hba
        go_wp2_with fail
        refine (refAhead_any kd vn vs xn xs _ vr1 vr2 xr1 xr2 (by omega)).mono ?_
        rintro e w2 ⟨rfl, hb2⟩
        obtain ⟨A, hA⟩ : ∃ A, aheadB kd (vn, vs) (xn, xs) = A := ⟨_, rfl⟩
        have HAA : Hid (aheadB kd (vn, vs) (xn, xs) = A) := hA
        rw [hA]
        have s2 := hb2.size
        simp at s2
        have ob2 : w2.heap[w1.heap.size]? = some (.cells #[.int .i64 xn, .string xs] 30 (0, 0)) := (hb2.block _ (by simp; omega)).trans ((Below.heap_alloc _ _ _ hob).trans HBX.out)
        have vb2 : w2.heap[wr.heap.size]? = some (.cells #[.int .i64 vn, .string vs] 30 (0, 0)) := (hb2.block _ (by simp)).trans (heap_alloc_new wr _)
        have m0 : w2.cell? ⟨w1.heap.size, 0, none⟩ = some (.int .i64 xn) := by rw [cell_of_row _ _ _ _ _ _ ob2]; rfl
        have m1 : w2.cell? ⟨w1.heap.size, 1, none⟩ = some (.string xs) := by rw [cell_of_row _ _ _ _ _ _ ob2]; rfl
        have m2 : w2.cell? ⟨wr.heap.size, 0, none⟩ = some (.int .i64 vn) := by rw [cell_of_row _ _ _ _ _ _ vb2]; rfl
        have m3 : w2.cell? ⟨wr.heap.size, 1, none⟩ = some (.string vs) := by rw [cell_of_row _ _ _ _ _ _ vb2]; rfl
        have HO2 : Hid (w2.heap[w1.heap.size]? = some (.cells #[.int .i64 xn, .string xs] 30 (0, 0))) := ob2
        have HV2 : Hid (w2.heap[wr.heap.size]? = some (.cells #[.int .i64 vn, .string vs] 30 (0, 0))) := vb2
        have HF2 : Hid (Fr [w1.heap.size] w1 w2) := (hF.alloc _).then hb2
        clear hb2 ob2 vb2 hA q0 q1 e0a eka e0 ek y1 y2 x1
        go_wp2_with fail
        refine (refAhead_any kd xn xs vn vs _ xr1 xr2 vr1 vr2 (by omega)).mono ?_
        rintro e w3 ⟨rfl, hb3⟩
        obtain ⟨B, hB⟩ : ∃ B, aheadB kd (xn, xs) (vn, vs) = B := ⟨_, rfl⟩
        have HBB : Hid (aheadB kd (xn, xs) (vn, vs) = B) := hB
        rw [hB]
        have s3 := hb3.size
        have ob3 : w3.heap[w1.heap.size]? = some (.cells #[.int .i64 xn, .string xs] 30 (0, 0)) := (hb3.block _ (by omega)).trans HO2.out
        have vb3 : w3.heap[wr.heap.size]? = some (.cells #[.int .i64 vn, .string vs] 30 (0, 0)) := (hb3.block _ (by omega)).trans HV2.out
        have n0 : w3.cell? ⟨w1.heap.size, 0, none⟩ = some (.int .i64 xn) := by rw [cell_of_row _ _ _ _ _ _ ob3]; rfl
        have n1 : ∀ u, (w3.setCell ⟨w1.heap.size, 0, none⟩ u).cell? ⟨w1.heap.size, 1, none⟩ = some (.string xs) := fun u => by rw [cell_of_row _ _ _ _ _ _ (heap_setCell_same _ _ _ _ _ _ ob3)]; rfl
        have f0 : w3.frozen? ⟨w1.heap.size, 0, none⟩ = false := by simp [World.frozen?, ob3]
        have f1 : ∀ u, (w3.setCell ⟨w1.heap.size, 0, none⟩ u).frozen? ⟨w1.heap.size, 1, none⟩ = false := fun u => by simp [World.frozen?, heap_setCell_same _ _ _ _ _ _ ob3]
        have n2 : w3.cell? ⟨wr.heap.size, 0, none⟩ = some (.int .i64 vn) := by rw [cell_of_row _ _ _ _ _ _ vb3]; rfl
        have n3 : w3.cell? ⟨wr.heap.size, 1, none⟩ = some (.string vs) := by rw [cell_of_row _ _ _ _ _ _ vb3]; rfl
        have HO3 : Hid (w3.heap[w1.heap.size]? = some (.cells #[.int .i64 xn, .string xs] 30 (0, 0))) := ob3
        have HF3 : Hid (Fr [w1.heap.size] w1 w3) := HF2.out.then hb3
        clear hb3 ob3 vb3 hB m0 m1 m2 m3
        have HST : Hid (refAll kd 2 (vals.take (k + 1)) = if (decide (k = 0) || A) then (vn, vs) else (xn, xs)) := by
          unfold Hid
          rw [HXT.out]
          unfold refStep
          rw [HAA.out]
          simp
        cases hcond : (decide (k = 0) || A)
        · have hk0 : (k == 0) = false := by simp at hcond; simpa using hcond.1
          have hA0 : A = false := by simp at hcond; exact hcond.2
          have HC : Hid ((decide (k = 0) || A) = false) := hcond
          subst hA0
          have hki : ((k : Int) == 0) = false := by rw [beq_eq_false_iff_ne]; rw [beq_eq_false_iff_ne] at hk0; omega
          clear hcond
          go_wp2
          go_roundw
          case rel =>
            refine ⟨k + 1, by omega, by go_num, ?_, HF3.out⟩
            rw [HST.out, HC.out]
            exact HO3.out
          case measure => simp [intOf]; omega
        · have HC : Hid ((decide (k = 0) || A) = true) := hcond
          have HEND : Hid (((w3.setCell ⟨w1.heap.size, 0, none⟩ (.int .i64 vn)).setCell ⟨w1.heap.size, 1, none⟩ (.string vs)).heap[w1.heap.size]? = some (.cells #[.int .i64 (refAll kd 2 (vals.take (k + 1))).1, .string (refAll kd 2 (vals.take (k + 1))).2] 30 (0, 0)) ∧ Fr [w1.heap.size] w1 ((w3.setCell ⟨w1.heap.size, 0, none⟩ (.int .i64 vn)).setCell ⟨w1.heap.size, 1, none⟩ (.string vs))) := by
            refine ⟨?_, (HF3.out.setCell (p := ⟨w1.heap.size, 0, none⟩) (.inl (by simp)) _).setCell (p := ⟨w1.heap.size, 1, none⟩) (.inl (by simp)) _⟩
            rw [HST.out, HC.out]
            exact heap_setCell_same _ _ _ _ _ _ (heap_setCell_same _ _ _ _ _ _ HO3.out)
          by_cases hk0 : k = 0
          · subst hk0
            clear hcond
            go_wp2
            go_roundw
            case rel => exact ⟨0 + 1, by omega, by go_num, HEND.out.1, HEND.out.2⟩
            case measure => simp [intOf]; omega
          · have hki : ((k : Int) == 0) = false := by rw [beq_eq_false_iff_ne]; omega
            have hA1 : A = true := by simpa [hk0] using hcond
            subst hA1
            clear hcond
            go_wp2
            go_roundw
            case rel => exact ⟨k + 1, by omega, by go_num, HEND.out.1, HEND.out.2⟩
            case measure => simp [intOf]; omega
      · have hke : k = vals.length := by rw [HVL.out]; omega
        rw [hke, List.take_length] at hbox
        have i1 : ¬ (k : Int) < (M.length : Int) := by omega
        obtain ⟨⟨xn, xs⟩, hX2⟩ : ∃ X, X = refAll kd 2 vals := ⟨_, rfl⟩
        rw [← hX2] at hbox
        have HXX : Hid ((xn, xs) = refAll kd 2 vals) := hX2
        have rb : wr.heap[w.heap.size]? = some (.cells #[.int .i64 0, .string ⟨#[]⟩] 30 (0, 0)) := (hF.block _ (by omega) (by simp; omega)).trans RB.out
        have q0 : wr.cell? ⟨w1.heap.size, 0, none⟩ = some (.int .i64 xn) := by rw [cell_of_row _ _ _ _ _ _ hbox]; rfl
        have q1 : wr.cell? ⟨w1.heap.size, 1, none⟩ = some (.string xs) := by rw [cell_of_row _ _ _ _ _ _ hbox]; rfl
        have k0 : wr.cell? ⟨w.heap.size, 0, none⟩ = some (.int .i64 0) := by rw [cell_of_row _ _ _ _ _ _ rb]; rfl
        have g0 : wr.frozen? ⟨w.heap.size, 0, none⟩ = false := by simp [World.frozen?, rb]
        have k1 : ∀ u, (wr.setCell ⟨w.heap.size, 0, none⟩ u).cell? ⟨w.heap.size, 1, none⟩ = some (.string ⟨#[]⟩) := fun u => by rw [cell_of_row _ _ _ _ _ _ (heap_setCell_same _ _ _ _ _ _ rb)]; rfl
        have g1 : ∀ u, (wr.setCell ⟨w.heap.size, 0, none⟩ u).frozen? ⟨w.heap.size, 1, none⟩ = false := fun u => by simp [World.frozen?, heap_setCell_same _ _ _ _ _ _ rb]
        have HRB2 : Hid (wr.heap[w.heap.size]? = some (.cells #[.int .i64 0, .string ⟨#[]⟩] 30 (0, 0))) := rb
        have BW : Below w.heap.size w wr := B1.trans (hF.below (by omega) (fun i hi => by rw [List.mem_singleton.1 hi]; omega))
        have HBW : Hid (Below w.heap.size w wr) := BW
        clear rb hbox BW hke hX2
        go_wp2
        have hXX : ((wr.setCell ⟨w.heap.size, 0, none⟩ (.int .i64 xn)).setCell ⟨w.heap.size, 1, none⟩ (.string xs)).heap[w.heap.size]? = some (.cells #[.int .i64 xn, .string xs] 30 (0, 0)) := heap_setCell_same _ _ _ _ _ _ (heap_setCell_same _ _ _ _ _ _ HRB2.out)
        have x0 : ((wr.setCell ⟨w.heap.size, 0, none⟩ (.int .i64 xn)).setCell ⟨w.heap.size, 1, none⟩ (.string xs)).cell? ⟨w.heap.size, 0, none⟩ = some (.int .i64 xn) := by rw [cell_of_row _ _ _ _ _ _ hXX]; rfl
        have x1 : ((wr.setCell ⟨w.heap.size, 0, none⟩ (.int .i64 xn)).setCell ⟨w.heap.size, 1, none⟩ (.string xs)).cell? ⟨w.heap.size, 1, none⟩ = some (.string xs) := by rw [cell_of_row _ _ _ _ _ _ hXX]; rfl
        refine bodyPost_ret (v := .tuple #[.agg #[.int .i64 xn, .string xs], .int .i64 M.length, .int .i64 0, .int .i64 0]) (by simp [results, Tryd.results61, go_sem, x0, x1]) rfl ⟨?_, ?_⟩
        · rw [HKD.out, ← HXX.out]; rfl
        · exact (HBW.out.setCell (p := ⟨w.heap.size, 0, none⟩) (Nat.le_refl _) _).setCell (p := ⟨w.heap.size, 1, none⟩) (Nat.le_refl _) _
  · go_enter Tryd.func61, Tryd.ntmps61
    go_wp2_with fail
    refine (HSC.out _).mono ?_
    rintro e w1 ⟨v, rfl, hown, hb1⟩
    obtain ⟨la, lc, rfl⟩ : ∃ la lc, v = .slice la M.length lc := by
      rcases hown.2 with ⟨h1, h2⟩ | ⟨gg, cp, _, h1, _⟩
      · exact ⟨none, 0, by rw [h1, h2]⟩
      · exact ⟨_, cp, h1⟩
    have HOW : Hid (w1.ownsRow (w.heap.size + 1) 25 1 (.slice la M.length lc) M.length (M.map rrval)) := by have h := hown; simp only [World.size_alloc] at h; exact h
    have s1 := hb1.size
    simp at s1
    have B1 : Below w.heap.size w w1 := ((Below.refl _ _).alloc (Nat.le_refl _) _).trans (hb1.mono (by simp))
    have RB : Hid (w1.heap[w.heap.size]? = some (.cells #[.int .i64 0, .string ⟨#[]⟩] 30 (0, 0))) := (hb1.block _ (by simp)).trans (heap_alloc_new w _)
    have d0 : w1.cell? ⟨tb, 0, none⟩ = some (.slice (some ⟨sc, 0, none⟩) ks.length scap) := (B1.cell (p := ⟨tb, 0, none⟩) htb).trans c0
    have dk : w1.cell? ⟨sc, c, none⟩ = some (.int .i64 ks[c]) := (B1.cell (p := ⟨sc, c, none⟩) hsc).trans ck
    clear hown hb1
    have hX : ∀ k, k ≤ vals.length → (-9223372036854775808 ≤ (refAll ks[c] 3 (vals.take k)).1 ∧ (refAll ks[c] 3 (vals.take k)).1 ≤ 9223372036854775807) ∧ (refAll ks[c] 3 (vals.take k)).2.size ≤ 1000000 := fun k hk => refAll_good ks[c] 3 (fun v => (-9223372036854775808 ≤ v.1 ∧ v.1 ≤ 9223372036854775807) ∧ v.2.size ≤ 1000000) vals (by decide) hvr (fun h => by omega) k hk
    have HX : Hid (∀ k, k ≤ vals.length → (-9223372036854775808 ≤ (refAll ks[c] 3 (vals.take k)).1 ∧ (refAll ks[c] 3 (vals.take k)).1 ≤ 9223372036854775807) ∧ (refAll ks[c] 3 (vals.take k)).2.size ≤ 1000000) := hX
    have HVR : Hid (∀ v ∈ vals, (-9223372036854775808 ≤ v.1 ∧ v.1 ≤ 9223372036854775807) ∧ v.2.size ≤ 1000000) := hvr
    have HVL : Hid (vals.length = M.length) := by unfold Hid; rw [HVA.out, List.length_map]
    clear hX hvr
    generalize hkd : ks[c] = kd at *
    have HKD : Hid (ks[c] = kd) := hkd
    clear hkd
    go_wp2_with fail
    have hc4 : decide ((c : Int) < 0) = false := by rw [decide_eq_false_iff_not]; omega
    have hc5 : decide (ks.length ≤ c) = false := by rw [decide_eq_false_iff_not]; omega
    simp only [hc4, hc5, Bool.or_false]
    clear hc4 hc5
    go_loopw [16] (fun x wr => ∃ k : Nat, k ≤ M.length ∧ x = .int .i64 k ∧ wr.heap[w1.heap.size]? = some (.cells #[.int .i64 (refAll kd 3 (vals.take k)).1, .string (refAll kd 3 (vals.take k)).2] 30 (0, 0)) ∧ Fr [w1.heap.size] w1 wr) (fun x _ => M.length - (intOf x).toNat)
    case atStart => exact ⟨0, Nat.zero_le _, rfl, heap_alloc_new w1 _, (Fr.refl _ _).alloc _⟩
    case round =>
      obtain ⟨k, hk', rfl, hbox, hF⟩ := hrel
      have hob : w1.heap.size < wr.heap.size := (Array.getElem?_eq_some_iff.1 hbox).1
      have e0 : wr.cell? ⟨tb, 0, none⟩ = some (.slice (some ⟨sc, 0, none⟩) ks.length scap) := (hF.cell tb 0 (by omega) (by simp; omega)).trans d0
      have ek : wr.cell? ⟨sc, c, none⟩ = some (.int .i64 kd) := (hF.cell sc c (by omega) (by simp; omega)).trans dk
      by_cases hlt : k < M.length
      · obtain ⟨g, cp, hv, hglt, _⟩ := HOW.out.form (by omega)
        simp only [Value.slice.injEq, true_and] at hv
        obtain ⟨rfl, rfl⟩ := hv
        have hcell := HOW.out.cells (g := g) rfl k (rrval M[k]) (by simp [hlt])
        have hadd : (⟨g, 0, none⟩ : Addr).add k = ⟨g, k, none⟩ := by unfold Addr.add; split <;> simp_all
        rw [hadd] at hcell
        have hgl : g < w1.heap.size := World.block_lt_of_cell? w1 ⟨g, k, none⟩ hcell
        have x1 : wr.cell? ⟨g, k, none⟩ = some (.slice (some ⟨M[k].g, 0, none⟩) M[k].r.length M[k].cap) := (hF.cell g k hgl (by simp; omega)).trans hcell
        have hmem := HMR.out M[k] (List.getElem_mem hlt)
        obtain ⟨_, rin, rcs, rfr, rblk⟩ := HA.out.rows.row M[k] hmem
        have hpl : M[k].g < w.heap.size := (Array.getElem?_eq_some_iff.1 rblk).1
        have hcr := HR6.out M[k] hmem
        obtain ⟨y1, y2⟩ := (rin.keep ((hF.block M[k].g (by omega) (by simp; omega)).trans (B1.block _ hpl))) c hcr
        have hlv : k < vals.length := by rw [HVL.out]; exact hlt
        have HV : Hid (vals[k] = M[k].r[c]) := by
          unfold Hid
          simp only [HVA.out, List.getElem_map]
          simp [List.getD, hcr]
        have HXT : Hid (refAll kd 3 (vals.take (k + 1)) = refStep kd 3 (decide (k = 0)) (refAll kd 3 (vals.take k)) vals[k]) := refAll_take kd 3 vals k hlv
        have hxr := HX.out k (by rw [HVL.out]; omega)
        have hvv := HVR.out vals[k] (List.getElem_mem hlv)
        rw [HV.out] at hvv HXT
        have hcr' : (c : Int) < (M[k].r.length : Int) := by omega
        clear hcell hadd rin rblk hmem HV hlv
        generalize M[k].r[c] = vc at *
        generalize M[k].r.length = rl at *
        generalize M[k].cap = rc at *
        generalize M[k].g = rg at *
        generalize refAll kd 3 (vals.take k) = X at *
        obtain ⟨vn, vs⟩ := vc
        obtain ⟨xn, xs⟩ := X
        obtain ⟨⟨xr1, xr2⟩, xr3⟩ := hxr
        obtain ⟨⟨vr1, vr2⟩, vr3⟩ := hvv
        dsimp only at xr1 xr2 xr3 vr1 vr2 vr3
        have HBX : Hid (wr.heap[w1.heap.size]? = some (.cells #[.int .i64 xn, .string xs] 30 (0, 0))) := hbox
        have hba : ∀ o, (wr.alloc o).heap[w1.heap.size]? = some (.cells #[.int .i64 xn, .string xs] 30 (0, 0)) := fun o => (Below.heap_alloc _ _ _ hob).trans hbox
        have q0 : ∀ o, (wr.alloc o).cell? ⟨w1.heap.size, 0, none⟩ = some (.int .i64 xn) := fun o => by rw [cell_of_row _ _ _ _ _ _ (hba o)]; rfl
        have q1 : ∀ o, (wr.alloc o).cell? ⟨w1.heap.size, 1, none⟩ = some (.string xs) := fun o => by rw [cell_of_row _ _ _ _ _ _ (hba o)]; rfl
        have e0a : ∀ o, (wr.alloc o).cell? ⟨tb, 0, none⟩ = some (.slice (some ⟨sc, 0, none⟩) ks.length scap) := fun o => (cell_alloc wr o _ _ (by omega)).trans e0
        have eka : ∀ o, (wr.alloc o).cell? ⟨sc, c, none⟩ = some (.int .i64 kd) := fun o => (cell_alloc wr o _ _ (by omega)).trans ek
        have i0 : (0 : Int) ≤ (k : Int) := by omega
        have i1 : (k : Int) < (M.length : Int) := by omega
        clear hbox hba
        go_wp2_with fail
        refine (refAhead_any kd vn vs xn xs _ vr1 vr2 xr1 xr2 (by omega)).mono ?_
        rintro e w2 ⟨rfl, hb2⟩
        obtain ⟨A, hA⟩ : ∃ A, aheadB kd (vn, vs) (xn, xs) = A := ⟨_, rfl⟩
        have HAA : Hid (aheadB kd (vn, vs) (xn, xs) = A) := hA
        rw [hA]
        have s2 := hb2.size
        simp at s2
        have ob2 : w2.heap[w1.heap.size]? = some (.cells #[.int .i64 xn, .string xs] 30 (0, 0)) := (hb2.block _ (by simp; omega)).trans ((Below.heap_alloc _ _ _ hob).trans HBX.out)
        have vb2 : w2.heap[wr.heap.size]? = some (.cells #[.int .i64 vn, .string vs] 30 (0, 0)) := (hb2.block _ (by simp)).trans (heap_alloc_new wr _)
        have m0 : w2.cell? ⟨w1.heap.size, 0, none⟩ = some (.int .i64 xn) := by rw [cell_of_row _ _ _ _ _ _ ob2]; rfl
        have m1 : w2.cell? ⟨w1.heap.size, 1, none⟩ = some (.string xs) := by rw [cell_of_row _ _ _ _ _ _ ob2]; rfl
        have m2 : w2.cell? ⟨wr.heap.size, 0, none⟩ = some (.int .i64 vn) := by rw [cell_of_row _ _ _ _ _ _ vb2]; rfl
        have m3 : w2.cell? ⟨wr.heap.size, 1, none⟩ = some (.string vs) := by rw [cell_of_row _ _ _ _ _ _ vb2]; rfl
        have HO2 : Hid (w2.heap[w1.heap.size]? = some (.cells #[.int .i64 xn, .string xs] 30 (0, 0))) := ob2
        have HV2 : Hid (w2.heap[wr.heap.size]? = some (.cells #[.int .i64 vn, .string vs] 30 (0, 0))) := vb2
        have HF2 : Hid (Fr [w1.heap.size] w1 w2) := (hF.alloc _).then hb2
        clear hb2 ob2 vb2 hA q0 q1 e0a eka e0 ek y1 y2 x1
        go_wp2_with fail
        refine (refAhead_any kd xn xs vn vs _ xr1 xr2 vr1 vr2 (by omega)).mono ?_
        rintro e w3 ⟨rfl, hb3⟩
        obtain ⟨B, hB⟩ : ∃ B, aheadB kd (xn, xs) (vn, vs) = B := ⟨_, rfl⟩
        have HBB : Hid (aheadB kd (xn, xs) (vn, vs) = B) := hB
        rw [hB]
        have s3 := hb3.size
        have ob3 : w3.heap[w1.heap.size]? = some (.cells #[.int .i64 xn, .string xs] 30 (0, 0)) := (hb3.block _ (by omega)).trans HO2.out
        have vb3 : w3.heap[wr.heap.size]? = some (.cells #[.int .i64 vn, .string vs] 30 (0, 0)) := (hb3.block _ (by omega)).trans HV2.out
        have n0 : w3.cell? ⟨w1.heap.size, 0, none⟩ = some (.int .i64 xn) := by rw [cell_of_row _ _ _ _ _ _ ob3]; rfl
        have n1 : ∀ u, (w3.setCell ⟨w1.heap.size, 0, none⟩ u).cell? ⟨w1.heap.size, 1, none⟩ = some (.string xs) := fun u => by rw [cell_of_row _ _ _ _ _ _ (heap_setCell_same _ _ _ _ _ _ ob3)]; rfl
        have f0 : w3.frozen? ⟨w1.heap.size, 0, none⟩ = false := by simp [World.frozen?, ob3]
        have f1 : ∀ u, (w3.setCell ⟨w1.heap.size, 0, none⟩ u).frozen? ⟨w1.heap.size, 1, none⟩ = false := fun u => by simp [World.frozen?, heap_setCell_same _ _ _ _ _ _ ob3]
        have n2 : w3.cell? ⟨wr.heap.size, 0, none⟩ = some (.int .i64 vn) := by rw [cell_of_row _ _ _ _ _ _ vb3]; rfl
        have n3 : w3.cell? ⟨wr.heap.size, 1, none⟩ = some (.string vs) := by rw [cell_of_row _ _ _ _ _ _ vb3]; rfl
        have HO3 : Hid (w3.heap[w1.heap.size]? = some (.cells #[.int .i64 xn, .string xs] 30 (0, 0))) := ob3
        have HF3 : Hid (Fr [w1.heap.size] w1 w3) := HF2.out.then hb3
        clear hb3 ob3 vb3 hB m0 m1 m2 m3
        have HST : Hid (refAll kd 3 (vals.take (k + 1)) = if (decide (k = 0) || B) then (vn, vs) else (xn, xs)) := by
          unfold Hid
          rw [HXT.out]
          unfold refStep
          rw [HBB.out]
          simp
        cases hcond : (decide (k = 0) || B)
        · have hk0 : (k == 0) = false := by simp at hcond; simpa using hcond.1
          have hA0 : B = false := by simp at hcond; exact hcond.2
          have HC : Hid ((decide (k = 0) || B) = false) := hcond
          subst hA0
          have hki : ((k : Int) == 0) = false := by rw [beq_eq_false_iff_ne]; rw [beq_eq_false_iff_ne] at hk0; omega
          clear hcond
          go_wp2
          go_roundw
          case rel =>
            refine ⟨k + 1, by omega, by go_num, ?_, HF3.out⟩
            rw [HST.out, HC.out]
            exact HO3.out
          case measure => simp [intOf]; omega
        · have HC : Hid ((decide (k = 0) || B) = true) := hcond
          have HEND : Hid (((w3.setCell ⟨w1.heap.size, 0, none⟩ (.int .i64 vn)).setCell ⟨w1.heap.size, 1, none⟩ (.string vs)).heap[w1.heap.size]? = some (.cells #[.int .i64 (refAll kd 3 (vals.take (k + 1))).1, .string (refAll kd 3 (vals.take (k + 1))).2] 30 (0, 0)) ∧ Fr [w1.heap.size] w1 ((w3.setCell ⟨w1.heap.size, 0, none⟩ (.int .i64 vn)).setCell ⟨w1.heap.size, 1, none⟩ (.string vs))) := by
            refine ⟨?_, (HF3.out.setCell (p := ⟨w1.heap.size, 0, none⟩) (.inl (by simp)) _).setCell (p := ⟨w1.heap.size, 1, none⟩) (.inl (by simp)) _⟩
            rw [HST.out, HC.out]
            exact heap_setCell_same _ _ _ _ _ _ (heap_setCell_same _ _ _ _ _ _ HO3.out)
          by_cases hk0 : k = 0
          · subst hk0
            clear hcond
            go_wp2
            go_roundw
            case rel => exact ⟨0 + 1, by omega, by go_num, HEND.out.1, HEND.out.2⟩
            case measure => simp [intOf]; omega
          · have hki : ((k : Int) == 0) = false := by rw [beq_eq_false_iff_ne]; omega
            have hA1 : B = true := by simpa [hk0] using hcond
            subst hA1
            clear hcond
            go_wp2
            go_roundw
            case rel => exact ⟨k + 1, by omega, by go_num, HEND.out.1, HEND.out.2⟩
            case measure => simp [intOf]; omega
      · have hke : k = vals.length := by rw [HVL.out]; omega
        rw [hke, List.take_length] at hbox
        have i1 : ¬ (k : Int) < (M.length : Int) := by omega
        obtain ⟨⟨xn, xs⟩, hX2⟩ : ∃ X, X = refAll kd 3 vals := ⟨_, rfl⟩
        rw [← hX2] at hbox
        have HXX : Hid ((xn, xs) = refAll kd 3 vals) := hX2
        have rb : wr.heap[w.heap.size]? = some (.cells #[.int .i64 0, .string ⟨#[]⟩] 30 (0, 0)) := (hF.block _ (by omega) (by simp; omega)).trans RB.out
        have q0 : wr.cell? ⟨w1.heap.size, 0, none⟩ = some (.int .i64 xn) := by rw [cell_of_row _ _ _ _ _ _ hbox]; rfl
        have q1 : wr.cell? ⟨w1.heap.size, 1, none⟩ = some (.string xs) := by rw [cell_of_row _ _ _ _ _ _ hbox]; rfl
        have k0 : wr.cell? ⟨w.heap.size, 0, none⟩ = some (.int .i64 0) := by rw [cell_of_row _ _ _ _ _ _ rb]; rfl
        have g0 : wr.frozen? ⟨w.heap.size, 0, none⟩ = false := by simp [World.frozen?, rb]
        have k1 : ∀ u, (wr.setCell ⟨w.heap.size, 0, none⟩ u).cell? ⟨w.heap.size, 1, none⟩ = some (.string ⟨#[]⟩) := fun u => by rw [cell_of_row _ _ _ _ _ _ (heap_setCell_same _ _ _ _ _ _ rb)]; rfl
        have g1 : ∀ u, (wr.setCell ⟨w.heap.size, 0, none⟩ u).frozen? ⟨w.heap.size, 1, none⟩ = false := fun u => by simp [World.frozen?, heap_setCell_same _ _ _ _ _ _ rb]
        have HRB2 : Hid (wr.heap[w.heap.size]? = some (.cells #[.int .i64 0, .string ⟨#[]⟩] 30 (0, 0))) := rb
        have BW : Below w.heap.size w wr := B1.trans (hF.below (by omega) (fun i hi => by rw [List.mem_singleton.1 hi]; omega))
        have HBW : Hid (Below w.heap.size w wr) := BW
        clear rb hbox BW hke hX2
        go_wp2
        have hXX : ((wr.setCell ⟨w.heap.size, 0, none⟩ (.int .i64 xn)).setCell ⟨w.heap.size, 1, none⟩ (.string xs)).heap[w.heap.size]? = some (.cells #[.int .i64 xn, .string xs] 30 (0, 0)) := heap_setCell_same _ _ _ _ _ _ (heap_setCell_same _ _ _ _ _ _ HRB2.out)
        have x0 : ((wr.setCell ⟨w.heap.size, 0, none⟩ (.int .i64 xn)).setCell ⟨w.heap.size, 1, none⟩ (.string xs)).cell? ⟨w.heap.size, 0, none⟩ = some (.int .i64 xn) := by rw [cell_of_row _ _ _ _ _ _ hXX]; rfl
        have x1 : ((wr.setCell ⟨w.heap.size, 0, none⟩ (.int .i64 xn)).setCell ⟨w.heap.size, 1, none⟩ (.string xs)).cell? ⟨w.heap.size, 1, none⟩ = some (.string xs) := by rw [cell_of_row _ _ _ _ _ _ hXX]; rfl
        refine bodyPost_ret (v := .tuple #[.agg #[.int .i64 xn, .string xs], .int .i64 M.length, .int .i64 0, .int .i64 0]) (by simp [results, Tryd.results61, go_sem, x0, x1]) rfl ⟨?_, ?_⟩
        · rw [HKD.out, ← HXX.out]; rfl
        · exact (HBW.out.setCell (p := ⟨w.heap.size, 0, none⟩) (Nat.le_refl _) _).setCell (p := ⟨w.heap.size, 1, none⟩) (Nat.le_refl _) _

end Go.Proofs.YtcconhgbefhdeaaDoor
