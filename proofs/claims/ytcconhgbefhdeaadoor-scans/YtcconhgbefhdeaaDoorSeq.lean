import Derived.RangeFuncNested
import Derived.RangeFuncBound
import Derived.RangeFuncCalls
import Derived.RangeFuncLeaves
import Derived.RangeFuncBox
import Derived.Shelf.Abstract
import Derived.Shelf.RegionOpen
import Derived.OwnWalkIn
import Derived.TacticsInMore
import Derived.LoopNIn
import Derived.LoopIn
import Derived.Maps.AppendAt
import Derived.Test.YtcconhgbefhdeaaDoorPasses
import Derived.Test.YtcconhgbefhdeaaDoorTable
namespace Go.Proofs.YtcconhgbefhdeaaDoor
open Go.RowKit Go.Shelf

attribute [local go_sem] Oper.semAt_some

theorem rows_cell {w : World} {base : Nat} {v : Value} {L : List (Nat × List (Int × ByteArray))} (h : RowsAt w base v L) (hl : 0 < L.length) : ∃ fg cp, v = .slice (some ⟨fg, 0, none⟩) L.length cp ∧ fg < w.heap.size ∧ base ≤ fg ∧ ∀ k (hk : k < L.length), w.cell? ⟨fg, k, none⟩ = some (rval L[k]) := by
  obtain ⟨g, cap, hv, h1, h2⟩ := h.own.form hl
  refine ⟨g, cap, hv, h2, h1, fun k hk => ?_⟩
  have := h.own.cells (g := g) (by rw [hv]; rfl) k (rval L[k]) (by simp [hk])
  have hadd : (⟨g, 0, none⟩ : Addr).add k = ⟨g, k, none⟩ := by unfold Addr.add; split <;> simp_all
  rw [hadd] at this
  exact this

/-- Of rows: one of a list. -/
abbrev Of (L : List (Nat × List (Int × ByteArray))) : Type := { p : Nat × List (Int × ByteArray) // p ∈ L }

/-- What a round that goes on keeps: all that lay, and the sieve's box. -/
def KeepsS (n₀ bA : Nat) (A B : World) : Prop := Below n₀ A B ∧ B.heap[bA]? = A.heap[bA]?

theorem KeepsS.trans {n₀ bA : Nat} {A B C : World} (h : KeepsS n₀ bA A B) (k : KeepsS n₀ bA B C) : KeepsS n₀ bA A C := ⟨h.1.trans k.1, k.2.trans h.2⟩

theorem keepsS_b {n₀ bA : Nat} {w : World} (h0 : n₀ ≤ w.heap.size) (hA : bA < w.heap.size) : ∀ (W : World) (l : Nat) (o o' : Obj), w.heap.size ≤ l → W.heap[l]? = some o → o.isCells = false → o.isWalk = false → KeepsS n₀ bA W (W.putObj l o') :=
  fun W l o o' hl ho h1 h2 => ⟨belowK_b (w := w) h0 W l o o' hl ho h1 h2, World.putObj_heap_other (by omega)⟩

theorem filter_take (ks : List Int) (T : List Tst) (L : List (Nat × List (Int × ByteArray))) (k : Nat) (h : k < L.length) :
    (L.take (k + 1)).filter (fun p => passB ks p.2 T) = (L.take k).filter (fun p => passB ks p.2 T) ++ (if passB ks L[k].2 T then [L[k]] else []) := by
  rw [List.take_succ_eq_append_getElem h, List.filter_append]
  congr 1
  simp [List.filter_cons]

set_option maxHeartbeats 1000000 in
theorem passing_ok (bs : Nat) (a b : Value) (w : World) :
    Calls Tryd.prog 46 #[.pointer (some ⟨bs, 0, none⟩), .agg #[a, b]] w fun e w' => e = .returned (.func (.func 68) #[] #[.pointer (some ⟨w.heap.size, 0, none⟩), .pointer (some ⟨w.heap.size + 1, 0, none⟩)]) ∧
      w' = (w.alloc (.cells #[.pointer (some ⟨bs, 0, none⟩)] 72)).alloc (.cells #[a, b] 92) := by
  go_enter Tryd.func46, Tryd.ntmps46
  go_wp2
  go_ret
  exact ⟨rfl, rfl⟩

set_option maxRecDepth 100000 in
set_option maxHeartbeats 1000000 in
theorem passing1_in (n : Nat) (hn : 1 ≤ n) (base bs bS bA sc scap tcap : Nat) (ta fa : Option Addr) (fc : Nat) (ks : List Int) (T : List Tst) (L : List (Nat × List (Int × ByteArray))) (sv : Value) (w0 W : World) (l : Nat)
    (h : StoreAt w0 base bs ks L sv (.slice fa L.length fc)) (hL : L.length ≤ 1000) (hk : 0 < ks.length) (hrow : ∀ p ∈ L, p.2.length = ks.length) (hks : KindsIn w0 sc ks) (hT : TestsAt w0 ta T) (hv : ValidT ks T)
    (J Jx : List (Of L) → World → Prop) (hJ : AbidesFrom W.heap.size J)
    (hY : ∀ pre (x : Of L) W1, J pre W1 → pre.length < L.length → YieldAt Fence.wide (n - 1) Tryd.prog l #[rval x.1] W1 fun e W' =>
      (e = .returned (.bool true) ∧ J (pre ++ [x]) W' ∧ KeepsS w0.heap.size bA W1 W') ∨ (e = .returned (.bool false) ∧ Jx (pre ++ [x]) W'))
    (hW : Below w0.heap.size w0 W) (cS : W.cell? ⟨bS, 0, none⟩ = some (.pointer (some ⟨bs, 0, none⟩)))
    (hA : W.heap[bA]? = some (.cells #[.slice (some ⟨sc, 0, none⟩) ks.length scap, .slice ta T.length tcap] 92 (0, 0))) (h0 : J [] W) :
    CallsIn Fence.wide n Tryd.prog 68 #[.func (.yield l) #[] #[], .pointer (some ⟨bS, 0, none⟩), .pointer (some ⟨bA, 0, none⟩)] W fun e W' => (∃ v, e = .returned v) ∧
      ((∃ xs, xs.map Subtype.val = L.filter (fun p => passB ks p.2 T) ∧ J xs W') ∨ (∃ pre : List (Of L), True ∧ Jx pre W')) := by
  have hbs : bs < w0.heap.size := (Array.getElem?_eq_some_iff.1 h.blk).1
  have hsc : sc < w0.heap.size := hks.lt hk
  have c1 : W.cell? ⟨bs, 1, none⟩ = some (.slice fa L.length fc) := by rw [hW.cell (p := ⟨bs, 1, none⟩) hbs, cell_of_row _ _ _ _ _ _ h.blk]; rfl
  have HH : Hid (StoreAt w0 base bs ks L sv (.slice fa L.length fc)) := h
  have HK : Hid (KindsIn w0 sc ks) := hks
  have HT : Hid (TestsAt w0 ta T) := hT
  have HV : Hid (ValidT ks T) := hv
  have HR : Hid (∀ p ∈ L, p.2.length = ks.length) := hrow
  have HY : Hid (∀ pre (x : Of L) W1, J pre W1 → pre.length < L.length → YieldAt Fence.wide (n - 1) Tryd.prog l #[rval x.1] W1 fun e W' =>
      (e = .returned (.bool true) ∧ J (pre ++ [x]) W' ∧ KeepsS w0.heap.size bA W1 W') ∨ (e = .returned (.bool false) ∧ Jx (pre ++ [x]) W')) := hY
  have HJ : Hid (AbidesFrom W.heap.size J) := hJ
  clear h hks hT hv hrow hY hJ
  refine callsIn_of_wp Tryd.func68 rfl trivial ?_ rfl
  simp only [Tryd.ntmps68, List.size_toArray, List.length_cons, List.length_nil, Nat.reduceAdd, Nat.reduceSub, Array.replicate_succ, Array.replicate_zero, List.push_toArray, List.append_toArray, List.nil_append, List.cons_append]
  gi_wp2
  gi_loopw [11] (fun i wr => ∃ (k : Nat) (pre : List (Of L)), i = .int .i64 k ∧ k ≤ L.length ∧ pre.map Subtype.val = (L.take k).filter (fun p => passB ks p.2 T) ∧ J pre wr ∧ Below w0.heap.size w0 wr ∧
    wr.heap[bA]? = some (.cells #[.slice (some ⟨sc, 0, none⟩) ks.length scap, .slice ta T.length tcap] 92 (0, 0)) ∧ W.heap.size ≤ wr.heap.size) (fun i _ => L.length - (intOf i).toNat)
  case atStart => exact ⟨0, [], rfl, Nat.zero_le _, rfl, h0, hW, hA, Nat.le_refl _⟩
  case round =>
    obtain ⟨k, pre, rfl, hk', hpre, hJs, hB, hbox, hsz⟩ := hrel
    have hpl : pre.length ≤ k := by
      have : (pre.map Subtype.val).length ≤ k := by rw [hpre]; exact Nat.le_trans (List.length_filter_le _ _) (by simp; omega)
      simpa using this
    have HP : Hid (pre.map Subtype.val = (L.take k).filter (fun p => passB ks p.2 T)) := hpre
    clear hpre
    by_cases hlt : k < L.length
    · obtain ⟨fg, cp, hfe, hfg, hfb, hcells⟩ := rows_cell HH.out.rows (by omega)
      simp only [Value.slice.injEq, true_and] at hfe
      obtain ⟨rfl, rfl⟩ := hfe
      have d1 : wr.cell? ⟨fg, k, none⟩ = some (.slice (some ⟨L[k].1, 0, none⟩) L[k].2.length L[k].2.length) := (hB.cell (p := ⟨fg, k, none⟩) hfg).trans (hcells k hlt)
      obtain ⟨rlo, rblk⟩ := HH.out.rows.blk L[k] (List.getElem_mem hlt)
      have RLEN : Hid (L[k].2.length = ks.length) := HR.out L[k] (List.getElem_mem hlt)
      have hrl : L[k].1 < w0.heap.size := rblk.lt
      have RIN : Hid (RowIn wr L[k].1 L[k].2) := (rblk.rowIn).keep (hB.block _ hrl)
      have HF : Hid ((L.take (k + 1)).filter (fun p => passB ks p.2 T) = (L.take k).filter (fun p => passB ks p.2 T) ++ (if passB ks L[k].2 T then [L[k]] else [])) := filter_take ks T L k hlt
      have hm : L[k] ∈ L := List.getElem_mem hlt
      have b0 : wr.cell? ⟨bA, 0, none⟩ = some (.slice (some ⟨sc, 0, none⟩) ks.length scap) := by rw [cell_of_row _ _ _ _ _ _ hbox]; rfl
      have b1 : wr.cell? ⟨bA, 1, none⟩ = some (.slice ta T.length tcap) := by rw [cell_of_row _ _ _ _ _ _ hbox]; rfl
      have hbA : bA < wr.heap.size := (Array.getElem?_eq_some_iff.1 hbox).1
      have HB : Hid (wr.heap[bA]? = some (.cells #[.slice (some ⟨sc, 0, none⟩) ks.length scap, .slice ta T.length tcap] 92 (0, 0))) := hbox
      clear hcells rblk hbox rlo
      generalize L[k] = p at *
      obtain ⟨rg, rr⟩ := p
      cases hp : passB ks rr T
      · have HQ : Hid (passB ks rr T = false) := hp
        gi_wp2_with (refine ⟨trivial, ?_⟩; gi_at_call 49; refine (callsIn_wide.2 (passes_ok sc scap tcap ta ks T rg rr.length rr _ hk (HK.out.keep (hB.block sc hsc)) RIN.out RLEN.out (HT.out.keep (fun j hj => hB.block j hj)) HV.out)).mono ?_; rintro e w2 ⟨rfl, hb2⟩)
        refine ⟨fun _ h => (by cases h), ?_⟩
        gi_wp2
        go_roundw
        case rel =>
          refine ⟨k + 1, pre, by go_num, by omega, ?_, HJ.out _ _ _ none hJs (grownBy_below hb2) (fun r e => by cases e), hB.trans (hb2.mono hB.size), (hb2.block _ hbA).trans HB.out, Nat.le_trans hsz hb2.size⟩
          rw [HF.out, HP.out, HQ.out]; simp
        case measure => simp [intOf]; omega
      · have HQ : Hid (passB ks rr T = true) := hp
        have hs2 := hB.size
        gi_wp2_with (refine ⟨trivial, ?_⟩; gi_at_call 49; refine (callsIn_wide.2 (passes_ok sc scap tcap ta ks T rg rr.length rr _ hk (HK.out.keep (hB.block sc hsc)) RIN.out RLEN.out (HT.out.keep (fun j hj => hB.block j hj)) HV.out)).mono ?_; rintro e w2 ⟨rfl, hb2⟩; obtain ⟨fn, tmps, assign, body, hy, hR⟩ := HY.out pre ⟨(rg, rr), hm⟩ w2 (HJ.out _ _ _ none hJs (grownBy_below hb2) (fun r e => by cases e)) (by omega); dsimp only [rval] at hy)
        refine hR.mono ?_
        rintro e W3 (⟨rfl, hJ3, hk3⟩ | ⟨rfl, hJx3⟩)
        · gi_wp2
          go_roundw
          case rel =>
            have h1 := hb2.size
            have h2 := hk3.1.size
            refine ⟨k + 1, pre ++ [⟨(rg, rr), hm⟩], by go_num, by omega, ?_, hJ3, (hB.trans (hb2.mono hB.size)).trans hk3.1, (hk3.2.trans (hb2.block _ hbA)).trans HB.out, by omega⟩
            rw [HF.out, List.map_append, HP.out, HQ.out]; simp
          case measure => simp [intOf]; omega
        · gi_wp2
          refine bodyPost_ret (results_none rfl _ _ _) rfl ?_
          exact ⟨⟨_, rfl⟩, .inr ⟨pre ++ [⟨(rg, rr), hm⟩], trivial, hJx3⟩⟩
    · gi_wp2
      go_end0
      have e0 : L.take k = L := List.take_of_length_le (by omega)
      exact ⟨⟨_, rfl⟩, .inl ⟨pre, by rw [HP.out, e0], hJs⟩⟩

theorem passing1_stops (n : Nat) (hn : 1 ≤ n) (base bs bS bA sc scap tcap : Nat) (ta fa : Option Addr) (fc : Nat) (ks : List Int) (T : List Tst) (L : List (Nat × List (Int × ByteArray))) (sv : Value) (w0 w : World)
    (h : StoreAt w0 base bs ks L sv (.slice fa L.length fc)) (hL : L.length ≤ 1000) (hk : 0 < ks.length) (hrow : ∀ p ∈ L, p.2.length = ks.length) (hks : KindsIn w0 sc ks) (hT : TestsAt w0 ta T) (hv : ValidT ks T)
    (hW : Below w0.heap.size w0 w) (cS : w.cell? ⟨bS, 0, none⟩ = some (.pointer (some ⟨bs, 0, none⟩)))
    (hA : w.heap[bA]? = some (.cells #[.slice (some ⟨sc, 0, none⟩) ks.length scap, .slice ta T.length tcap] 92 (0, 0))) :
    SeqStopsK Fence.wide n Tryd.prog 68 #[.pointer (some ⟨bS, 0, none⟩), .pointer (some ⟨bA, 0, none⟩)] (fun x : Of L => #[rval x.1]) (KeepsS w0.heap.size bA) (fun xs => xs.map Subtype.val = L.filter (fun p => passB ks p.2 T)) (fun _ => True) L.length w :=
  fun l J Jx W hW' hJ _ hY h0 => by
    have hbS : bS < w.heap.size := World.block_lt_of_cell? w ⟨bS, 0, none⟩ cS
    have hbA : bA < w.heap.size := (Array.getElem?_eq_some_iff.1 hA).1
    exact passing1_in n hn base bs bS bA sc scap tcap ta fa fc ks T L sv w0 W l h hL hk hrow hks hT hv J Jx hJ hY (hW.trans (hW'.mono hW.size)) ((hW'.cell (p := ⟨bS, 0, none⟩) hbS).trans cS) ((hW'.block _ hbA).trans hA) h0

end Go.Proofs.YtcconhgbefhdeaaDoor
