import Derived.Test.YtcconhgbefhdeaaDoorRefAns
import Derived.Test.YtcconhgbefhdeaaDoorScan
namespace Go.Proofs.YtcconhgbefhdeaaDoor
open Go.RowKit
attribute [local go_sem ↓] Go.wp_at_zero Go.wp_at_succ

set_option maxRecDepth 100000 in
set_option maxHeartbeats 1000000 in
theorem refYes_any (tb sc scap tcap g rcap : Nat) (ta : Option Addr) (ks : List Int) (T : List Tst) (r : List (Int × ByteArray)) (w : World) (hv : ValidT ks T) (hfit : FitsRow ks r) (hrg : RowRg r) (htg : TstRg T)
    (hsch : w.cell? ⟨tb, 0, none⟩ = some (.slice (some ⟨sc, 0, none⟩) ks.length scap)) (hks : KindsIn w sc ks) (hT : TestsA w ta T) (hrow : RowIn w g r) :
    Calls Tryd.prog 78 #[.pointer (some ⟨tb, 0, none⟩), .slice ta T.length tcap, .slice (some ⟨g, 0, none⟩) r.length rcap] w fun e w' => e = .returned (.bool (passB ks r T)) ∧ Below w.heap.size w w' := by
  by_cases h0 : T.length = 0
  · have : T = [] := List.eq_nil_of_length_eq_zero h0
    subst this
    go_enter Tryd.func78, Tryd.ntmps78
    go_wp2
    go_ret
    exact ⟨ret_bool rfl, Below.refl _ _⟩
  · rcases hT with h | ⟨tg, tz, rfl, hin⟩
    · rw [h] at h0; simp at h0
    have IH := refAnswer_any tb sc scap tcap tg tz g rcap ks T r hv.few hv.ok hfit hrg htg (T.length - 1) (by omega) w ⟨hsch, hks, hin, hrow⟩
    rw [show ((T.length - 1 : Nat) : Int) = (T.length : Int) - 1 by omega] at IH
    have HI : Hid (Calls Tryd.prog 88 #[.pointer (some ⟨tb, 0, none⟩), .slice (some ⟨tg, tz, none⟩) T.length tcap, .int .i64 ((T.length : Int) - 1), .slice (some ⟨g, 0, none⟩) r.length rcap] w (AnsAt ks r T (T.length - 1) w)) := IH
    have e0 : ((T.length : Int) == 0) = false := by rw [beq_eq_false_iff_ne]; omega
    have h40 := hv.few
    have HE : Hid (∀ b j, runR ks r (T.take (T.length - 1 + 1)) [] = b :: runR ks r (T.take j) [] → passB ks r T = b) := fun b j h => by
      rw [Nat.sub_add_cancel (by omega), List.take_length] at h
      unfold passB; rw [h]
    clear IH hsch hks hin hrow hv hfit hrg htg h0
    go_enter Tryd.func78, Tryd.ntmps78
    go_wp2_with fail
    refine (HI.out).mono ?_
    rintro e w1 ⟨b, j, hj, rfl, hr, hb1⟩
    have HB : Hid (passB ks r T = b) := HE.out b j hr
    clear hr
    go_wp2
    go_ret
    exact ⟨ret_bool HB.out.symm, hb1⟩

/-- A row of the document's table: where it lies. -/
structure RRow where
  g : Nat
  cap : Nat
  r : List (Int × ByteArray)

def rrval (p : RRow) : Value := .slice (some ⟨p.g, 0, none⟩) p.r.length p.cap

structure RRowsAt (w : World) (base : Nat) (v : Value) (R : List RRow) : Prop where
  own : w.ownsRow base 25 1 v R.length (R.map rrval)
  row : ∀ p ∈ R, base ≤ p.g ∧ RowIn w p.g p.r ∧ ∃ cs fr, w.heap[p.g]? = some (.cells cs 30 fr)

structure RefAt (w : World) (base tb : Nat) (ks : List Int) (R : List RRow) (sv fv : Value) : Prop where
  blk : w.heap[tb]? = some (.cells #[sv, fv] 84 (0, 0))
  lo : base ≤ tb
  sch : w.ownsRow base 3 1 sv ks.length (ks.map (Value.int .i64))
  rows : RRowsAt w base fv R

theorem RefAt.kinds {w : World} {base tb : Nat} {ks : List Int} {R : List RRow} {sv fv : Value} (h : RefAt w base tb ks R sv fv) (hk : 0 < ks.length) :
    ∃ sc scap, sv = .slice (some ⟨sc, 0, none⟩) ks.length scap ∧ KindsIn w sc ks ∧ base ≤ sc ∧ (∃ cs, w.heap[sc]? = some (.cells cs 3 (0, 0))) := by
  rcases h.sch.2 with ⟨_, h0⟩ | ⟨g, cap, cur, hv, hg, hh, h1, h2, h3, h4⟩
  · omega
  · refine ⟨g, cap, hv, fun i hi => ?_, hg, _, hh⟩
    have := h.sch.cells (g := g) (by rw [hv]; rfl) i (.int .i64 ks[i]) (by simp [hi])
    have hadd : (⟨g, 0, none⟩ : Addr).add i = ⟨g, i, none⟩ := by unfold Addr.add; split <;> simp_all
    rw [hadd] at this
    exact this

theorem RRowsAt.cell {w : World} {base : Nat} {v : Value} {R : List RRow} (h : RRowsAt w base v R) (hl : 0 < R.length) : ∃ fg cp, v = .slice (some ⟨fg, 0, none⟩) R.length cp ∧ fg < w.heap.size ∧ base ≤ fg ∧ ∀ k (hk : k < R.length), w.cell? ⟨fg, k, none⟩ = some (rrval R[k]) := by
  obtain ⟨g, cap, hv, h1, h2⟩ := h.own.form hl
  refine ⟨g, cap, hv, h2, h1, fun k hk => ?_⟩
  have := h.own.cells (g := g) (by rw [hv]; rfl) k (rrval R[k]) (by simp [hk])
  have hadd : (⟨g, 0, none⟩ : Addr).add k = ⟨g, k, none⟩ := by unfold Addr.add; split <;> simp_all
  rw [hadd] at this
  exact this

theorem rfilter_succ (ks : List Int) (T : List Tst) (R : List RRow) (k : Nat) (h : k < R.length) :
    (R.take (k + 1)).filter (fun p => passB ks p.r T) = (R.take k).filter (fun p => passB ks p.r T) ++ (if passB ks R[k].r T then [R[k]] else []) := by
  rw [List.take_succ_eq_append_getElem h, List.filter_append]
  congr 1
  simp [List.filter_cons]

set_option maxRecDepth 100000 in
set_option maxHeartbeats 1000000 in
theorem refScan_ok (base tb : Nat) (ks : List Int) (R : List RRow) (sv : Value) (fa : Option Addr) (fc tcap : Nat) (ta : Option Addr) (T : List Tst) (w : World) (h : RefAt w base tb ks R sv (.slice fa R.length fc)) (hR : R.length ≤ 1000) (hk : 0 < ks.length) (hty : ∀ x ∈ ks, isTypeB x = true)
    (hrow : ∀ p ∈ R, FitsRow ks p.r ∧ RowRg p.r) (hT : TestsA w ta T) (htg : TstRg T) (hok : (testFault ks T).1 = 0) :
    Calls Tryd.prog 57 #[.pointer (some ⟨tb, 0, none⟩), .slice ta T.length tcap] w fun e w' => ∃ v, e = .returned (.tuple #[v, .int .i64 0, .int .i64 0]) ∧
      w'.ownsRow w.heap.size 25 1 v (R.filter (fun p => passB ks p.r T)).length ((R.filter (fun p => passB ks p.r T)).map rrval) ∧ Below w.heap.size w w' := by
  obtain ⟨i0, hi0, hz0, hz1, hz2⟩ := info_parts info_row
  obtain ⟨sc, scap, rfl, hkin, hsc0, scs, hscs⟩ := h.kinds hk
  have hsc : sc < w.heap.size := hkin.lt hk
  have htb : tb < w.heap.size := (Array.getElem?_eq_some_iff.1 h.blk).1
  have c0 : w.cell? ⟨tb, 0, none⟩ = some (.slice (some ⟨sc, 0, none⟩) ks.length scap) := by rw [cell_of_row _ _ _ _ _ _ h.blk]; rfl
  have c1 : w.cell? ⟨tb, 1, none⟩ = some (.slice fa R.length fc) := by rw [cell_of_row _ _ _ _ _ _ h.blk]; rfl
  have HH : Hid (RRowsAt w base (.slice fa R.length fc) R) := h.rows
  have HK : Hid (KindsIn w sc ks) := hkin
  have HT : Hid (TestsA w ta T) := hT
  have HTG : Hid (TstRg T) := htg
  have HV : Hid (ValidT ks T) := testFault_ok ks T hok
  have HR : Hid (∀ p ∈ R, FitsRow ks p.r ∧ RowRg p.r) := hrow
  have HO : Hid ((testFault ks T).1 = 0) := hok
  have HC0 : Hid (w.cell? ⟨tb, 0, none⟩ = some (.slice (some ⟨sc, 0, none⟩) ks.length scap)) := c0
  have HTY : Hid (∀ x ∈ ks, isTypeB x = true) := hty
  clear h hkin hT hrow hscs htg hok c0 hty
  go_enter Tryd.func57, Tryd.ntmps57
  go_wp2_with fail
  refine (refTests_any tb sc scap tcap ta ks T w hk HC0.out HK.out HTY.out HT.out).mono ?_
  rintro e w1 ⟨rfl, hb1⟩
  rw [HO.out]
  have hs1 := hb1.size
  have k1 : w1.cell? ⟨tb, 1, none⟩ = some (.slice fa R.length fc) := (hb1.cell (p := ⟨tb, 1, none⟩) htb).trans c1
  have HC1 : Hid (w.cell? ⟨tb, 1, none⟩ = some (.slice fa R.length fc)) := c1
  clear c1
  go_wp2_with fail
  go_loopw [9, 10] (fun fnd i wr => ∃ k : Nat, k ≤ R.length ∧ i = .int .i64 k ∧ wr.ownsRow w.heap.size 25 1 fnd ((R.take k).filter (fun p => passB ks p.r T)).length (((R.take k).filter (fun p => passB ks p.r T)).map rrval) ∧ Below w.heap.size w wr) (fun _ i _ => R.length - (intOf i).toNat)
  case atStart => exact ⟨0, Nat.zero_le _, rfl, by simpa using World.ownsRow_nil _ _ _ _, hb1⟩
  case round =>
    obtain ⟨k, hk', rfl, hM, hB⟩ := hrel
    have d0 : wr.cell? ⟨tb, 1, none⟩ = some (.slice fa R.length fc) := (hB.cell (p := ⟨tb, 1, none⟩) htb).trans HC1.out
    have hz := hB.size
    clear k1
    by_cases hlt : k < R.length
    · obtain ⟨fg, cp, hfe, hfg, hfb, hcells⟩ := HH.out.cell (by omega)
      simp only [Value.slice.injEq, true_and] at hfe
      obtain ⟨rfl, rfl⟩ := hfe
      have d1 : wr.cell? ⟨fg, k, none⟩ = some (.slice (some ⟨R[k].g, 0, none⟩) R[k].r.length R[k].cap) := (hB.cell (p := ⟨fg, k, none⟩) hfg).trans (hcells k hlt)
      obtain ⟨rlo, rin, rcs, rfr, rblk⟩ := HH.out.row R[k] (List.getElem_mem hlt)
      obtain ⟨rfit, rrg⟩ := HR.out R[k] (List.getElem_mem hlt)
      have hrl : R[k].g < w.heap.size := (Array.getElem?_eq_some_iff.1 rblk).1
      have HF : Hid ((R.take (k + 1)).filter (fun p => passB ks p.r T) = (R.take k).filter (fun p => passB ks p.r T) ++ (if passB ks R[k].r T then [R[k]] else [])) := rfilter_succ ks T R k hlt
      have HY : Hid (∀ W, Below w.heap.size w W → Calls Tryd.prog 78 #[.pointer (some ⟨tb, 0, none⟩), .slice ta T.length tcap, .slice (some ⟨R[k].g, 0, none⟩) R[k].r.length R[k].cap] W fun e w' => e = .returned (.bool (passB ks R[k].r T)) ∧ Below W.heap.size W w') := fun W hW =>
        refYes_any tb sc scap tcap R[k].g R[k].cap ta ks T R[k].r W HV.out rfit rrg HTG.out ((hW.cell (p := ⟨tb, 0, none⟩) htb).trans HC0.out) (HK.out.keep (hW.block sc hsc)) (HT.out.keep (fun j hj => hW.block j hj)) (rin.keep (hW.block _ hrl))
      have hml : ((R.take k).filter (fun p => passB ks p.r T)).length ≤ k := Nat.le_trans (List.length_filter_le _ _) (by simp; omega)
      have hdv : ∀ o : Obj, (wr.alloc o).cell? ⟨tb, 1, none⟩ = some (.slice (some ⟨fg, 0, none⟩) R.length fc) := fun o => (cell_alloc _ _ _ _ (by omega)).trans d0
      have HRK : Hid (rrval R[k] = .slice (some ⟨R[k].g, 0, none⟩) R[k].r.length R[k].cap) := rfl
      clear hcells rblk rin rfit rrg rlo hdv
      generalize R[k] = p at *
      generalize (R.take k).filter (fun p => passB ks p.r T) = M at *
      have HM : Hid (wr.ownsRow w.heap.size 25 1 u9 M.length (M.map rrval)) := hM
      clear hM
      cases hp : passB ks p.r T
      · have HP : Hid (passB ks p.r T = false) := hp
        go_wp2_with fail
        refine (HY.out _ hB).mono ?_
        rintro e w2 ⟨rfl, hb2⟩
        rw [HP.out]
        have BB : Below w.heap.size w w2 := hB.trans (hb2.mono hz)
        clear d0 d1
        go_wp2
        go_roundw
        case rel =>
          refine ⟨k + 1, by omega, by go_num, ?_, BB⟩
          rw [HF.out, HP.out]; simpa using ownsRow_below HM.out hb2
        case measure => simp [intOf]; omega
      · have HP : Hid (passB ks p.r T = true) := hp
        go_wp2_with fail
        refine (HY.out _ hB).mono ?_
        rintro e w2 ⟨rfl, hb2⟩
        rw [HP.out]
        have hs2 := hb2.size
        have BB : Below w.heap.size w w2 := hB.trans (hb2.mono hz)
        have d2 : w2.cell? ⟨tb, 1, none⟩ = some (.slice (some ⟨fg, 0, none⟩) R.length fc) := (hb2.cell (p := ⟨tb, 1, none⟩) (by simp; omega)).trans d0
        have d3 : w2.cell? ⟨fg, k, none⟩ = some (.slice (some ⟨p.g, 0, none⟩) p.r.length p.cap) := (hb2.cell (p := ⟨fg, k, none⟩) (by simp; omega)).trans d1
        have HO2 : Hid (w2.ownsRow w.heap.size 25 1 u9 M.length (M.map rrval)) := ownsRow_below HM.out hb2
        clear d0 d1
        go_wp2_with (at_builtin; refine wpList_append_lies _ rfl _ _ _ rfl w.heap.size 25 i0 _ 1 24 Tryd.underlying39 hi0 hz0 hz1 hz2 rfl (by omega) u9 M.length (M.map rrval) (by rfl) (HO2.out.alloc _) ⟨w2.heap.size, 0, none⟩ 1 1 [.slice (some ⟨p.g, 0, none⟩) p.r.length p.cap] (by rfl) (by rfl) (World.news_of_block (cs := #[.slice (some ⟨p.g, 0, none⟩) p.r.length p.cap]) (t := 25) (fr := (0, 0)) (heap_alloc_new w2 _)) (by simp [Value.oneCell']) (by omega) (by unfold maxLen; omega) (by omega) (by simp; omega) (w2.heap.size + 1) (by simp) ?_; intro gg cp w4 hown4 hgrow hat hlt4)
        go_roundw
        case rel =>
          refine ⟨k + 1, by omega, by go_num, ?_, ?_⟩
          · rw [HF.out, HP.out]; simpa [rrval] using hown4
          · exact Below.grown (BB.alloc (by omega) _) hgrow (by simp; omega) (fun j hj => (HO2.out.lt j hj).1)
        case measure => simp [intOf]; omega
    · go_wp2
      have : R.take k = R := List.take_of_length_le (by omega)
      rw [this] at hM
      exact bodyPost_ret (v := .tuple #[u9, .int .i64 0, .int .i64 0]) (by simp [results, Tryd.results57, go_sem]) rfl ⟨u9, rfl, hM, hB⟩

set_option maxRecDepth 100000 in
set_option maxHeartbeats 1000000 in
theorem refScan_bad (base tb : Nat) (ks : List Int) (R : List RRow) (sv fv : Value) (tcap : Nat) (ta : Option Addr) (T : List Tst) (w : World) (h : RefAt w base tb ks R sv fv) (hk : 0 < ks.length) (hty : ∀ x ∈ ks, isTypeB x = true) (hT : TestsA w ta T) (hf : (testFault ks T).1 ≠ 0) :
    Calls Tryd.prog 57 #[.pointer (some ⟨tb, 0, none⟩), .slice ta T.length tcap] w fun e w' => e = .returned (.tuple #[.slice none 0 0, .int .i64 (testFault ks T).1, .int .i64 (testFault ks T).2]) ∧ Below w.heap.size w w' := by
  obtain ⟨sc, scap, rfl, hkin, hsc0, scs, hscs⟩ := h.kinds hk
  have c0 : w.cell? ⟨tb, 0, none⟩ = some (.slice (some ⟨sc, 0, none⟩) ks.length scap) := by rw [cell_of_row _ _ _ _ _ _ h.blk]; rfl
  have hne : ((testFault ks T).1 != 0) = true := by rw [bne_iff_ne]; exact hf
  have HC : Hid (Calls Tryd.prog 77 #[.pointer (some ⟨tb, 0, none⟩), .slice ta T.length tcap] w fun e w' => e = .returned (.tuple #[.int .i64 (testFault ks T).1, .int .i64 (testFault ks T).2]) ∧ Below w.heap.size w w') := refTests_any tb sc scap tcap ta ks T w hk c0 hkin hty hT
  clear h hkin hscs c0 hty hT hf
  generalize testFault ks T = f at *
  go_enter Tryd.func57, Tryd.ntmps57
  go_wp2_with fail
  refine HC.out.mono ?_
  rintro e w1 ⟨rfl, hb1⟩
  go_wp2
  exact bodyPost_ret (v := .tuple #[.slice none 0 0, .int .i64 f.1, .int .i64 f.2]) (by simp [results, Tryd.results57, go_sem]) rfl ⟨rfl, hb1⟩

end Go.Proofs.YtcconhgbefhdeaaDoor
