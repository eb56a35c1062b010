import Derived.Test.YtcconhgbefhdeaaDoorScansP06
import Derived.Test.YtcconhgbefhdeaaDoorScansP05
import Derived.Deep.RegionLaw
namespace Go.Proofs.YtcconhgbefhdeaaDoor
open Go.RowKit
attribute [local go_sem ↓] Go.wp_at_zero Go.wp_at_succ

set_option maxRecDepth 100000 in
set_option maxHeartbeats 1000000 in
theorem refYes_any (tb sc scap tcap g rcap : Nat) (ta : Option Addr) (ks : List Int) (T : List Tst) (r : List (Int × ByteArray)) (w : World) (hv : ValidT ks T) (hfit : FitsRow ks r) (hrg : RowRg r) (htg : TstRg T)
    (hsch : w.cell? ⟨tb, 0, none⟩ = some (.slice (some ⟨sc, 0, none⟩) ks.length scap)) (hks : KindsIn w sc ks) (hT : TestsA w ta T) (hrow : RowIn w g r) :
    Calls Tryd.prog 78 #[.pointer (some ⟨tb, 0, none⟩), .slice ta T.length tcap, .slice (some ⟨g, 0, none⟩) r.length rcap] w fun e w' => e = .returned (.bool (passB ks r T)) ∧ Below w.heap.size w w' := by
  by_cases h0 : T.length = 0
  · have : T = [] := List.eq_nil_of_length_eq_zero h0
    subst this
    go_enter Tryd.func78, Tryd.ntmps78
    go_wp2
    go_ret
    exact ⟨ret_bool rfl, Below.refl _ _⟩
  · rcases hT with h | ⟨tg, tz, rfl, hin⟩
    · rw [h] at h0; simp at h0
    have IH := refAnswer_any tb sc scap tcap tg tz g rcap ks T r hv.few hv.ok hfit hrg htg (T.length - 1) (by omega) w ⟨hsch, hks, hin, hrow⟩
    rw [show ((T.length - 1 : Nat) : Int) = (T.length : Int) - 1 by omega] at IH
    have HI : Hid (Calls Tryd.prog 88 #[.pointer (some ⟨tb, 0, none⟩), .slice (some ⟨tg, tz, none⟩) T.length tcap, .int .i64 ((T.length : Int) - 1), .slice (some ⟨g, 0, none⟩) r.length rcap] w (AnsAt ks r T (T.length - 1) w)) := IH
    have e0 : ((T.length : Int) == 0) = false := by rw [beq_eq_false_iff_ne]; omega
    have h40 := hv.few
    have HE : Hid (∀ b j, runR ks r (T.take (T.length - 1 + 1)) [] = b :: runR ks r (T.take j) [] → passB ks r T = b) := fun b j h => by
      rw [Nat.sub_add_cancel (by omega), List.take_length] at h
      unfold passB; rw [h]
    clear IH hsch hks hin hrow hv hfit hrg htg h0
    go_enter Tryd.func78, Tryd.ntmps78
    go_wp2_with fail
    refine (HI.out).mono ?_
    rintro e w1 ⟨b, j, hj, rfl, hr, hb1⟩
    have HB : Hid (passB ks r T = b) := HE.out b j hr
    clear hr
    go_wp2
    go_ret
    exact ⟨ret_bool HB.out.symm, hb1⟩

/-- A row of the document's table: where it lies. -/
structure RRow where
  g : Nat
  cap : Nat
  r : List (Int × ByteArray)

def rrval (p : RRow) : Value := .slice (some ⟨p.g, 0, none⟩) p.r.length p.cap

structure RRowsAt (w : World) (base : Nat) (v : Value) (R : List RRow) : Prop where
  own : w.ownsRow base 25 1 v R.length (R.map rrval)
  row : ∀ p ∈ R, base ≤ p.g ∧ RowIn w p.g p.r ∧ ∃ cs fr, w.heap[p.g]? = some (.cells cs 30 fr)

structure RefAt (w : World) (base tb : Nat) (ks : List Int) (R : List RRow) (sv fv : Value) : Prop where
  blk : w.heap[tb]? = some (.cells #[sv, fv] 84 (0, 0))
  lo : base ≤ tb
  sch : w.ownsRow base 3 1 sv ks.length (ks.map (Value.int .i64))
  rows : RRowsAt w base fv R

theorem RefAt.kinds {w : World} {base tb : Nat} {ks : List Int} {R : List RRow} {sv fv : Value} (h : RefAt w base tb ks R sv fv) (hk : 0 < ks.length) :
    ∃ sc scap, sv = .slice (some ⟨sc, 0, none⟩) ks.length scap ∧ KindsIn w sc ks ∧ base ≤ sc ∧ (∃ cs, w.heap[sc]? = some (.cells cs 3 (0, 0))) := by
  rcases h.sch.2 with ⟨_, h0⟩ | ⟨g, cap, cur, hv, hg, hh, h1, h2, h3, h4⟩
  · omega
  · refine ⟨g, cap, hv, fun i hi => ?_, hg, _, hh⟩
    have := h.sch.cells (g := g) (by rw [hv]; rfl) i (.int .i64 ks[i]) (by simp [hi])
    have hadd : (⟨g, 0, none⟩ : Addr).add i = ⟨g, i, none⟩ := by unfold Addr.add; split <;> simp_all
    rw [hadd] at this
    exact this

theorem RRowsAt.cell {w : World} {base : Nat} {v : Value} {R : List RRow} (h : RRowsAt w base v R) (hl : 0 < R.length) : ∃ fg cp, v = .slice (some ⟨fg, 0, none⟩) R.length cp ∧ fg < w.heap.size ∧ base ≤ fg ∧ ∀ k (hk : k < R.length), w.cell? ⟨fg, k, none⟩ = some (rrval R[k]) := by
  obtain ⟨g, cap, hv, h1, h2⟩ := h.own.form hl
  refine ⟨g, cap, hv, h2, h1, fun k hk => ?_⟩
  have := h.own.cells (g := g) (by rw [hv]; rfl) k (rrval R[k]) (by simp [hk])
  have hadd : (⟨g, 0, none⟩ : Addr).add k = ⟨g, k, none⟩ := by unfold Addr.add; split <;> simp_all
  rw [hadd] at this
  exact this

theorem rfilter_succ (ks : List Int) (T : List Tst) (R : List RRow) (k : Nat) (h : k < R.length) :
    (R.take (k + 1)).filter (fun p => passB ks p.r T) = (R.take k).filter (fun p => passB ks p.r T) ++ (if passB ks R[k].r T then [R[k]] else []) := by
  rw [List.take_succ_eq_append_getElem h, List.filter_append]
  congr 1
  simp [List.filter_cons]

set_option maxRecDepth 100000 in
set_option maxHeartbeats 1000000 in
theorem refScan_ok (base tb : Nat) (ks : List Int) (R : List RRow) (sv : Value) (fa : Option Addr) (fc tcap : Nat) (ta : Option Addr) (T : List Tst) (w : World) (h : RefAt w base tb ks R sv (.slice fa R.length fc)) (hR : R.length ≤ 1000) (hk : 0 < ks.length) (hty : ∀ x ∈ ks, isTypeB x = true)
    (hrow : ∀ p ∈ R, FitsRow ks p.r ∧ RowRg p.r) (hT : TestsA w ta T) (htg : TstRg T) (hok : (testFault ks T).1 = 0) :
    Calls Tryd.prog 57 #[.pointer (some ⟨tb, 0, none⟩), .slice ta T.length tcap] w fun e w' => ∃ v, e = .returned (.tuple #[v, .int .i64 0, .int .i64 0]) ∧
      w'.ownsRow w.heap.size 25 1 v (R.filter (fun p => passB ks p.r T)).length ((R.filter (fun p => passB ks p.r T)).map rrval) ∧ Below w.heap.size w w' := by
  obtain ⟨i0, hi0, hz0, hz1, hz2⟩ := info_parts info_row
  obtain ⟨sc, scap, rfl, hkin, hsc0, scs, hscs⟩ := h.kinds hk
  have hsc : sc < w.heap.size := hkin.lt hk
  have htb : tb < w.heap.size := (Array.getElem?_eq_some_iff.1 h.blk).1
  have c0 : w.cell? ⟨tb, 0, none⟩ = some (.slice (some ⟨sc, 0, none⟩) ks.length scap) := by rw [cell_of_row _ _ _ _ _ _ h.blk]; rfl
  have c1 : w.cell? ⟨tb, 1, none⟩ = some (.slice fa R.length fc) := by rw [cell_of_row _ _ _ _ _ _ h.blk]; rfl
  have HH : Hid (RRowsAt w base (.slice fa R.length fc) R) := h.rows
  have HK : Hid (KindsIn w sc ks) := hkin
  have HT : Hid (TestsA w ta T) := hT
  have HTG : Hid (TstRg T) := htg
  have HV : Hid (ValidT ks T) := testFault_ok ks T hok
  have HR : Hid (∀ p ∈ R, FitsRow ks p.r ∧ RowRg p.r) := hrow
  have HO : Hid ((testFault ks T).1 = 0) := hok
  have HC0 : Hid (w.cell? ⟨tb, 0, none⟩ = some (.slice (some ⟨sc, 0, none⟩) ks.length scap)) := c0
  have HTY : Hid (∀ x ∈ ks, isTypeB x = true) := hty
  clear h hkin hT hrow hscs htg hok c0 hty
  go_enter Tryd.func57, Tryd.ntmps57
  go_wp2_with fail
  refine (refTests_any tb sc scap tcap ta ks T w hk HC0.out HK.out HTY.out HT.out).mono ?_
  rintro e w1 ⟨rfl, hb1⟩
  rw [HO.out]
  have hs1 := hb1.size
  have k1 : w1.cell? ⟨tb, 1, none⟩ = some (.slice fa R.length fc) := (hb1.cell (p := ⟨tb, 1, none⟩) htb).trans c1
  have HC1 : Hid (w.cell? ⟨tb, 1, none⟩ = some (.slice fa R.length fc)) := c1
  clear c1
  go_wp2_with fail
  go_loopw [9, 10] (fun fnd i wr => ∃ k : Nat, k ≤ R.length ∧ i = .int .i64 k ∧ wr.ownsRow w.heap.size 25 1 fnd ((R.take k).filter (fun p => passB ks p.r T)).length (((R.take k).filter (fun p => passB ks p.r T)).map rrval) ∧ Below w.heap.size w wr) (fun _ i _ => R.length - (intOf i).toNat)
  case atStart => exact ⟨0, Nat.zero_le _, rfl, by simpa using World.ownsRow_nil _ _ _ _, hb1⟩
  case round =>
    obtain ⟨k, hk', rfl, hM, hB⟩ := hrel
    have d0 : wr.cell? ⟨tb, 1, none⟩ = some (.slice fa R.length fc) := (hB.cell (p := ⟨tb, 1, none⟩) htb).trans HC1.out
    have hz := hB.size
    clear k1
    by_cases hlt : k < R.length
    · obtain ⟨fg, cp, hfe, hfg, hfb, hcells⟩ := HH.out.cell (by omega)
      simp only [Value.slice.injEq, true_and] at hfe
      obtain ⟨rfl, rfl⟩ := hfe
      have d1 : wr.cell? ⟨fg, k, none⟩ = some (.slice (some ⟨R[k].g, 0, none⟩) R[k].r.length R[k].cap) := (hB.cell (p := ⟨fg, k, none⟩) hfg).trans (hcells k hlt)
      obtain ⟨rlo, rin, rcs, rfr, rblk⟩ := HH.out.row R[k] (List.getElem_mem hlt)
      obtain ⟨rfit, rrg⟩ := HR.out R[k] (List.getElem_mem hlt)
      have hrl : R[k].g < w.heap.size := (Array.getElem?_eq_some_iff.1 rblk).1
      have HF : Hid ((R.take (k + 1)).filter (fun p => passB ks p.r T) = (R.take k).filter (fun p => passB ks p.r T) ++ (if passB ks R[k].r T then [R[k]] else [])) := rfilter_succ ks T R k hlt
      have HY : Hid (∀ W, Below w.heap.size w W → Calls Tryd.prog 78 #[.pointer (some ⟨tb, 0, none⟩), .slice ta T.length tcap, .slice (some ⟨R[k].g, 0, none⟩) R[k].r.length R[k].cap] W fun e w' => e = .returned (.bool (passB ks R[k].r T)) ∧ Below W.heap.size W w') := fun W hW =>
        refYes_any tb sc scap tcap R[k].g R[k].cap ta ks T R[k].r W HV.out rfit rrg HTG.out ((hW.cell (p := ⟨tb, 0, none⟩) htb).trans HC0.out) (HK.out.keep (hW.block sc hsc)) (HT.out.keep (fun j hj => hW.block j hj)) (rin.keep (hW.block _ hrl))
      have hml : ((R.take k).filter (fun p => passB ks p.r T)).length ≤ k := Nat.le_trans (List.length_filter_le _ _) (by simp; omega)
      have hdv : ∀ o : Obj, (wr.alloc o).cell? ⟨tb, 1, none⟩ = some (.slice (some ⟨fg, 0, none⟩) R.length fc) := fun o => (cell_alloc _ _ _ _ (by omega)).trans d0
      have HRK : Hid (rrval R[k] = .slice (some ⟨R[k].g, 0, none⟩) R[k].r.length R[k].cap) := rfl
      clear hcells rblk rin rfit rrg rlo hdv
      generalize R[k] = p at *
      generalize (R.take k).filter (fun p => passB ks p.r T) = M at *
      have HM : Hid (wr.ownsRow w.heap.size 25 1 u9 M.length (M.map rrval)) := hM
      clear hM
      cases hp : passB ks p.r T
      · have HP : Hid (passB ks p.r T = false) := hp
        go_wp2_with fail
        refine (HY.out _ hB).mono ?_
        rintro e w2 ⟨rfl, hb2⟩
        rw [HP.out]
        have BB : Below w.heap.size w w2 := hB.trans (hb2.mono hz)
        clear d0 d1
        go_wp2
        go_roundw
        case rel =>
          refine ⟨k + 1, by omega, by go_num, ?_, BB⟩
          rw [HF.out, HP.out]; simpa using ownsRow_below HM.out hb2
        case measure => simp [intOf]; omega
      · have HP : Hid (passB ks p.r T = true) := hp
        go_wp2_with fail
        refine (HY.out _ hB).mono ?_
        rintro e w2 ⟨rfl, hb2⟩
        rw [HP.out]
        have hs2 := hb2.size
        have BB : Below w.heap.size w w2 := hB.trans (hb2.mono hz)
        have d2 : w2.cell? ⟨tb, 1, none⟩ = some (.slice (some ⟨fg, 0, none⟩) R.length fc) := (hb2.cell (p := ⟨tb, 1, none⟩) (by simp; omega)).trans d0
        have d3 : w2.cell? ⟨fg, k, none⟩ = some (.slice (some ⟨p.g, 0, none⟩) p.r.length p.cap) := (hb2.cell (p := ⟨fg, k, none⟩) (by simp; omega)).trans d1
        have HO2 : Hid (w2.ownsRow w.heap.size 25 1 u9 M.length (M.map rrval)) := ownsRow_below HM.out hb2
        clear d0 d1
        go_wp2_with (at_builtin; refine wpList_append_lies _ rfl _ _ _ rfl w.heap.size 25 i0 _ 1 24 Tryd.underlying39 hi0 hz0 hz1 hz2 rfl (by omega) u9 M.length (M.map rrval) (by rfl) (HO2.out.alloc _) ⟨w2.heap.size, 0, none⟩ 1 1 [.slice (some ⟨p.g, 0, none⟩) p.r.length p.cap] (by rfl) (by rfl) (World.news_of_block (cs := #[.slice (some ⟨p.g, 0, none⟩) p.r.length p.cap]) (t := 25) (fr := (0, 0)) (heap_alloc_new w2 _)) (by simp [Value.oneCell']) (by omega) (by unfold maxLen; omega) (by omega) (by simp; omega) (w2.heap.size + 1) (by simp) ?_; intro gg cp w4 hown4 hgrow hat hlt4)
        go_roundw
        case rel =>
          refine ⟨k + 1, by omega, by go_num, ?_, ?_⟩
          · rw [HF.out, HP.out]; simpa [rrval] using hown4
          · exact Below.grown (BB.alloc (by omega) _) hgrow (by simp; omega) (fun j hj => (HO2.out.lt j hj).1)
        case measure => simp [intOf]; omega
    · go_wp2
      have : R.take k = R := List.take_of_length_le (by omega)
      rw [this] at hM
      exact bodyPost_ret (v := .tuple #[u9, .int .i64 0, .int .i64 0]) (by simp [results, Tryd.results57, go_sem]) rfl ⟨u9, rfl, hM, hB⟩

set_option maxRecDepth 100000 in
set_option maxHeartbeats 1000000 in
theorem refScan_bad (base tb : Nat) (ks : List Int) (R : List RRow) (sv fv : Value) (tcap : Nat) (ta : Option Addr) (T : List Tst) (w : World) (h : RefAt w base tb ks R sv fv) (hk : 0 < ks.length) (hty : ∀ x ∈ ks, isTypeB x = true) (hT : TestsA w ta T) (hf : (testFault ks T).1 ≠ 0) :
    Calls Tryd.prog 57 #[.pointer (some ⟨tb, 0, none⟩), .slice ta T.length tcap] w fun e w' => e = .returned (.tuple #[.slice none 0 0, .int .i64 (testFault ks T).1, .int .i64 (testFault ks T).2]) ∧ Below w.heap.size w w' := by
  obtain ⟨sc, scap, rfl, hkin, hsc0, scs, hscs⟩ := h.kinds hk
  have c0 : w.cell? ⟨tb, 0, none⟩ = some (.slice (some ⟨sc, 0, none⟩) ks.length scap) := by rw [cell_of_row _ _ _ _ _ _ h.blk]; rfl
  have hne : ((testFault ks T).1 != 0) = true := by rw [bne_iff_ne]; exact hf
  have HC : Hid (Calls Tryd.prog 77 #[.pointer (some ⟨tb, 0, none⟩), .slice ta T.length tcap] w fun e w' => e = .returned (.tuple #[.int .i64 (testFault ks T).1, .int .i64 (testFault ks T).2]) ∧ Below w.heap.size w w') := refTests_any tb sc scap tcap ta ks T w hk c0 hkin hty hT
  clear h hkin hscs c0 hty hT hf
  generalize testFault ks T = f at *
  go_enter Tryd.func57, Tryd.ntmps57
  go_wp2_with fail
  refine HC.out.mono ?_
  rintro e w1 ⟨rfl, hb1⟩
  go_wp2
  exact bodyPost_ret (v := .tuple #[.slice none 0 0, .int .i64 f.1, .int .i64 f.2]) (by simp [results, Tryd.results57, go_sem]) rfl ⟨rfl, hb1⟩

end Go.Proofs.YtcconhgbefhdeaaDoor

namespace Go.Proofs.YtcconhgbefhdeaaDoor
open Go.RowKit
attribute [local go_sem ↓] Go.wp_at_zero Go.wp_at_succ

theorem below_grown {w w' : World} (h : w.grownBy w' none) : Below w.heap.size w w' := ⟨h.os, h.tape, h.output, h.size, fun k hk => h.block k hk (by simp)⟩

theorem ref_append_close {base tb : Nat} {ks : List Int} {R : List RRow} {sv : Value} {fa : Option Addr} {n fc : Nat} {r : List (Int × ByteArray)} {w w2 w3 : World} {o : Obj} {g c2 gg cp : Nat}
    (h : RefAt w base tb ks R sv (.slice fa n fc)) (hn : R.length = n) (hbase : base ≤ w.heap.size) (hb : Below w.heap.size w w2)
    (hg : w.heap.size ≤ g) (hrin : RowIn w2 g r) (hblk : ∃ cs fr, w2.heap[g]? = some (.cells cs 30 fr))
    (hown : w3.ownsRow base 25 1 (.slice (some ⟨gg, 0, none⟩) (n + 1) cp) (n + 1) (R.map rrval ++ [.slice (some ⟨g, 0, none⟩) r.length c2]))
    (hgrow : (w2.alloc o).grownBy w3 (Value.slice fa n fc).ownBlock) (hat : (Value.slice fa n fc).ownBlock = some gg ∨ gg = w2.heap.size + 1) :
    ∃ fv' p, RefAt (w3.setCell ⟨tb, 1, none⟩ (.slice (some ⟨gg, 0, none⟩) (n + 1) cp)) base tb ks (R ++ [p]) sv fv' ∧ p.r = r ∧ w.heap.size ≤ p.g ∧
      Fr (tb :: (Value.slice fa n fc).ownBlock.toList) w (w3.setCell ⟨tb, 1, none⟩ (.slice (some ⟨gg, 0, none⟩) (n + 1) cp)) ∧ (fv'.ownBlock = (Value.slice fa n fc).ownBlock ∨ ∃ k, fv'.ownBlock = some k ∧ w.heap.size ≤ k) := by
  have s1 := hb.size
  have htb : tb < w.heap.size := (Array.getElem?_eq_some_iff.1 h.blk).1
  have hF : Fr (Value.slice fa n fc).ownBlock.toList w w3 := by
    refine (Fr.of_below (S := (Value.slice fa n fc).ownBlock.toList) hb).alloc o |>.grown hgrow (fun k hk => ?_)
    left; rw [hk]; simp
  have hown0 : ∀ k t, (Value.slice fa n fc).ownBlock = some k → (∃ cs fr, w.heap[k]? = some (.cells cs t fr)) → t = 25 := fun k t e ⟨cs, fr, hk⟩ => by
    rcases h.rows.own.2 with ⟨h1, _⟩ | ⟨gg, cp, cur, h1, _, h2, _⟩
    · rw [h1] at e; cases e
    · rw [h1] at e
      simp only [Value.ownBlock, Option.some.injEq] at e
      rw [e, hk] at h2
      simp at h2
      exact h2.2.1
  have hnb : tb ∉ (Value.slice fa n fc).ownBlock.toList := by
    intro hm
    have e : (Value.slice fa n fc).ownBlock = some tb := by simpa using hm
    have := hown0 tb _ e ⟨_, _, h.blk⟩
    cases this
  have hgb : gg ≠ tb := by
    rintro rfl
    rcases hat with h1 | h1
    · exact hnb (by rw [h1]; simp)
    · omega
  have hb3 : w3.heap[tb]? = some (.cells #[sv, .slice fa n fc] 84 (0, 0)) := (hF.block tb htb hnb).trans h.blk
  refine ⟨.slice (some ⟨gg, 0, none⟩) (n + 1) cp, ⟨g, c2, r⟩, ⟨?_, h.lo, ?_, ?_⟩, rfl, hg, (hF.mono (T := tb :: (Value.slice fa n fc).ownBlock.toList) (fun i hi => List.mem_cons_of_mem _ hi)).setCell (p := ⟨tb, 1, none⟩) (.inl (List.mem_cons_self (a := tb))) _, ?_⟩
  · exact heap_setCell_same _ _ _ _ _ _ hb3
  · refine World.ownsRow.kept (w := w3) ?_ (row := some tb) ⟨rfl, rfl, rfl, by simp [World.setCell], fun k hk hne => heap_setCell_other _ _ _ _ (fun e => hne (by rw [e]))⟩ ?_
    · refine ⟨h.sch.1, ?_⟩
      rcases h.sch.2 with h1 | ⟨g, cap, cur, hv, hg, hh, rest⟩
      · exact .inl h1
      · refine .inr ⟨g, cap, cur, hv, hg, ?_, rest⟩
        rw [hF.block g (Array.getElem?_eq_some_iff.1 hh).1 ?_]
        · exact hh
        · intro hm
          have e : (Value.slice fa n fc).ownBlock = some g := by simpa using hm
          have := hown0 g _ e ⟨_, _, hh⟩
          cases this
    · rcases h.sch.2 with ⟨h1, _⟩ | ⟨g, cap, cur, hv, hg, hh, rest⟩
      · left; rw [h1]; rfl
      · right; rw [hv]; simp only [Value.ownBlock]; intro e
        simp only [Option.some.injEq] at e
        rw [e, h.blk] at hh
        simp at hh
  · refine ⟨?_, ?_⟩
    · have : (R ++ [(⟨g, c2, r⟩ : RRow)]).length = n + 1 := by simp [hn]
      rw [this, List.map_append]
      refine World.ownsRow.kept (w := w3) hown (row := some tb) ⟨rfl, rfl, rfl, by simp [World.setCell], fun k hk hne => heap_setCell_other _ _ _ _ (fun e => hne (by rw [e]))⟩ (.inr ?_)
      simp only [Value.ownBlock]; intro e; simp only [Option.some.injEq] at e; exact hgb e
    · intro p hp
      rcases List.mem_append.1 hp with hp | hp
      · obtain ⟨h1, h2, cs, fr, h3⟩ := h.rows.row p hp
        have hlt : p.g < w.heap.size := (Array.getElem?_eq_some_iff.1 h3).1
        have hne : p.g ≠ tb := by intro e; rw [e, h.blk] at h3; simp at h3
        have he : (w3.setCell ⟨tb, 1, none⟩ (.slice (some ⟨gg, 0, none⟩) (n + 1) cp)).heap[p.g]? = w.heap[p.g]? := by
          rw [heap_setCell_other _ _ _ _ hne, hF.block p.g hlt ?_]
          intro hm
          have e : (Value.slice fa n fc).ownBlock = some p.g := by simpa using hm
          have := hown0 p.g _ e ⟨_, _, h3⟩
          cases this
        exact ⟨h1, h2.keep he, cs, fr, he.trans h3⟩
      · have e : p = ⟨g, c2, r⟩ := by simpa using hp
        subst e
        obtain ⟨cs, fr, h3⟩ := hblk
        have hlt : g < w2.heap.size := (Array.getElem?_eq_some_iff.1 h3).1
        have hne : g ≠ tb := by omega
        have he : (w3.setCell ⟨tb, 1, none⟩ (.slice (some ⟨gg, 0, none⟩) (n + 1) cp)).heap[g]? = w2.heap[g]? := by
          rw [heap_setCell_other _ _ _ _ hne, hgrow.block g (by simp; omega) ?_, Below.heap_alloc _ _ _ hlt]
          intro e
          rcases h.rows.own.lt g e.symm with ⟨_, h2⟩
          omega
        exact ⟨by simp; omega, hrin.keep he, cs, fr, he.trans h3⟩
  · simp only [Value.ownBlock] at hat ⊢
    rcases hat with h1 | h1
    · left; rw [h1]
    · right; exact ⟨gg, rfl, by omega⟩

theorem RowIn.news {w : World} {g : Nat} {r : List (Int × ByteArray)} (h : RowIn w g r) : ∀ j u, (vcells r)[j]? = some u → w.cell? ((⟨g, 0, none⟩ : Addr).add j) = some u := fun j u hu => by
  have hadd : (⟨g, 0, none⟩ : Addr).add j = ⟨g, j, none⟩ := by unfold Addr.add; split <;> simp_all
  rw [hadd]
  have hj : j < 2 * r.length := by
    have := (List.getElem?_eq_some_iff.1 hu).1
    rwa [vcells_length] at this
  obtain ⟨a1, a2⟩ := vcells_at r (j / 2) (by omega)
  obtain ⟨b1, b2⟩ := h (j / 2) (by omega)
  rcases Nat.mod_two_eq_zero_or_one j with hm | hm
  · have e : 2 * (j / 2) = j := by omega
    rw [e, hu] at a1
    rw [a1, ← b1]
    congr 2
    omega
  · have e : 2 * (j / 2) + 1 = j := by omega
    rw [e, hu] at a2
    rw [a2, ← b2]
    congr 2
    omega

theorem addr_plus (g zo j : Nat) : (⟨g, zo, none⟩ : Addr).add j = ⟨g, zo + j, none⟩ := by unfold Addr.add; split <;> simp_all

theorem RowO.news {w : World} {g zo : Nat} {r : List (Int × ByteArray)} (h : RowO w g zo r) : ∀ j u, (vcells r)[j]? = some u → w.cell? ((⟨g, zo, none⟩ : Addr).add j) = some u := fun j u hu => by
  rw [addr_plus]
  have hj : j < 2 * r.length := by
    have := (List.getElem?_eq_some_iff.1 hu).1
    rwa [vcells_length] at this
  obtain ⟨a1, a2⟩ := vcells_at r (j / 2) (by omega)
  obtain ⟨b1, b2⟩ := h (j / 2) (by omega)
  rcases Nat.mod_two_eq_zero_or_one j with hm | hm
  · have e : 2 * (j / 2) = j := by omega
    rw [e, hu] at a1
    rw [a1, ← b1]
    congr 2
    omega
  · have e : 2 * (j / 2) + 1 = j := by omega
    rw [e, hu] at a2
    rw [a2, ← b2]
    congr 2
    omega

theorem RowIn.of_own {w : World} {base g cap n : Nat} {r : List (Int × ByteArray)} (h : w.ownsRow base 30 2 (.slice (some ⟨g, 0, none⟩) n cap) n (vcells r)) : RowIn w g r := fun i hi => by
  obtain ⟨a1, a2⟩ := vcells_at r i hi
  have hadd : ∀ j, (⟨g, 0, none⟩ : Addr).add j = ⟨g, j, none⟩ := fun j => by unfold Addr.add; split <;> simp_all
  have c1 := h.cells (g := g) rfl (2 * i) _ a1
  have c2 := h.cells (g := g) rfl (2 * i + 1) _ a2
  rw [hadd, show 2 * i = i * 2 by omega] at c1
  rw [hadd, show 2 * i = i * 2 by omega] at c2
  exact ⟨c1, c2⟩

theorem own_blk {w : World} {base g cap n : Nat} {xs : List Value} {t : TypeId} {sz : Nat} (h : w.ownsRow base t sz (.slice (some ⟨g, 0, none⟩) n cap) n xs) : ∃ cs fr, w.heap[g]? = some (.cells cs t fr) := by
  rcases h.2 with ⟨h1, _⟩ | ⟨gg, cp, cur, h1, _, h2, _⟩
  · cases h1
  · simp only [Value.slice.injEq, Option.some.injEq, Addr.mk.injEq, true_and, and_true] at h1
    rw [h1.1]; exact ⟨_, _, h2⟩

set_option maxRecDepth 100000 in
set_option maxHeartbeats 1000000 in
theorem refAppend_len (tb sc scap : Nat) (ks : List Int) (r : List (Int × ByteArray)) (ra : Option Addr) (cap : Nat) (w : World) (hs : w.cell? ⟨tb, 0, none⟩ = some (.slice (some ⟨sc, 0, none⟩) ks.length scap)) (hne : r.length ≠ ks.length) :
    Calls Tryd.prog 39 #[.pointer (some ⟨tb, 0, none⟩), .slice ra r.length cap] w fun e w' => e = .returned (.tuple #[.int .i64 2, .int .i64 (-1)]) ∧ Below w.heap.size w w' := by
  have h : ((r.length : Int) != (ks.length : Int)) = true := by rw [bne_iff_ne]; omega
  go_enter Tryd.func39, Tryd.ntmps39
  go_wp2
  go_ret2
  exact ⟨rfl, Below.refl _ _⟩

set_option maxRecDepth 100000 in
set_option maxHeartbeats 1000000 in
theorem refAppend_fit (tb sc scap : Nat) (ks : List Int) (r : List (Int × ByteArray)) (g zo cap : Nat) (w : World) (hs : w.cell? ⟨tb, 0, none⟩ = some (.slice (some ⟨sc, 0, none⟩) ks.length scap)) (hks : KindsIn w sc ks) (hty : ∀ x ∈ ks, isTypeB x = true)
    (hin : RowO w g zo r) (hr : r.length ≤ 1000) (hlen : r.length = ks.length) (i : Nat) (hb : firstBad (fitAt ks r) ks.length = some i) :
    Calls Tryd.prog 39 #[.pointer (some ⟨tb, 0, none⟩), .slice (some ⟨g, zo, none⟩) r.length cap] w fun e w' => e = .returned (.tuple #[.int .i64 2, .int .i64 i]) ∧ Below w.heap.size w w' := by
  obtain ⟨hi, hbad, hgood⟩ := firstBad_some _ _ _ hb
  have htb : tb < w.heap.size := World.block_lt_of_cell? w ⟨tb, 0, none⟩ hs
  have hg : g < w.heap.size := hin.lt (by omega)
  have hsc : sc < w.heap.size := hks.lt (by omega)
  have hne : ((r.length : Int) != (r.length : Int)) = false := by simp
  have HB : Hid (fitAt ks r i = false) := hbad
  have HG : Hid (∀ j, j < i → fitAt ks r j = true) := hgood
  have HIN : Hid (RowO w g zo r) := hin
  have HK : Hid (KindsIn w sc ks) := hks
  have HTY : Hid (∀ x ∈ ks, isTypeB x = true) := hty
  rw [← hlen] at hs
  have hkl : ks.length = r.length := hlen.symm
  clear hb hbad hgood hin hks hty hlen
  go_enter Tryd.func39, Tryd.ntmps39
  go_wp2_with fail
  go_loopw [6] (fun x wr => ∃ k : Nat, k ≤ i ∧ x = .int .i64 k ∧ Below w.heap.size w wr) (fun x _ => r.length - (intOf x).toNat)
  case atStart => exact ⟨0, Nat.zero_le _, rfl, Below.refl _ _⟩
  case round =>
    obtain ⟨k, hk, rfl, hB⟩ := hrel
    have hlt : k < r.length := by omega
    obtain ⟨c1, c2⟩ := HIN.out k hlt
    have hz := hB.size
    have d1 : wr.cell? ⟨g, zo + k * 2, none⟩ = some (.int .i64 r[k].1) := (hB.cell (p := ⟨g, zo + k * 2, none⟩) hg).trans c1
    have d2 : wr.cell? ⟨g, zo + k * 2 + 1, none⟩ = some (.string r[k].2) := (hB.cell (p := ⟨g, zo + k * 2 + 1, none⟩) hg).trans c2
    have d3 : wr.cell? ⟨tb, 0, none⟩ = some (.slice (some ⟨sc, 0, none⟩) r.length scap) := (hB.cell (p := ⟨tb, 0, none⟩) htb).trans hs
    have d4 : wr.cell? ⟨sc, k, none⟩ = some (.int .i64 (ks[k]'(by omega))) := (hB.cell (p := ⟨sc, k, none⟩) hsc).trans (HK.out k (by omega))
    have hkt : isTypeB (ks[k]'(by omega)) = true := HTY.out _ (List.getElem_mem _)
    have hfe : fitAt ks r k = fitsB (ks[k]'(by omega)) r[k].1 r[k].2 := by unfold fitAt; simp [List.getD, hlt, show k < ks.length by omega]
    have HFE : Hid (fitAt ks r k = fitsB (ks[k]'(by omega)) r[k].1 r[k].2) := hfe
    have hk0 : (0 : Int) ≤ (k : Int) := by omega
    have hk1 : (k : Int) < (r.length : Int) := by omega
    generalize ks[k]'(by omega) = kk at d4 HFE hkt
    generalize r[k].1 = rn at *
    generalize r[k].2 = rs at *
    have n1 := World.new_ne _ _ d3
    have n2 := World.new_ne _ _ d4
    have n3 := World.new_ne _ _ d1
    clear c1 c2 hfe
    by_cases hki : k < i
    · have hf : fitsB kk rn rs = true := by rw [← HFE.out]; exact HG.out k hki
      go_wp2_with fail
      go_region_held3 (fun w' => w'.cell? ⟨g, zo + k * 2, none⟩ = some (.int .i64 rn) ∧ w'.cell? ⟨g, zo + k * 2 + 1, none⟩ = some (.string rs) ∧ w'.cell? ⟨tb, 0, none⟩ = some (.slice (some ⟨sc, 0, none⟩) r.length scap) ∧ w'.cell? ⟨sc, k, none⟩ = some (.int .i64 kk)) (go_keep)
        (first | (go_at_call 53; refine (refFits_any _ _ _ _ hkt).mono ?_; rintro e w1 ⟨rfl, rfl⟩))
      go_wp2
      go_roundw
      case rel => exact ⟨k + 1, by omega, by go_num, (hB.alloc (by omega) _).drew⟩
      case measure => simp [intOf]; omega
    · have hke : k = i := by omega
      have hf : fitsB kk rn rs = false := by rw [← HFE.out, hke]; exact HB.out
      subst hke
      go_wp2_with fail
      go_region_held3 (fun w' => w'.cell? ⟨g, zo + k * 2, none⟩ = some (.int .i64 rn) ∧ w'.cell? ⟨g, zo + k * 2 + 1, none⟩ = some (.string rs) ∧ w'.cell? ⟨tb, 0, none⟩ = some (.slice (some ⟨sc, 0, none⟩) r.length scap) ∧ w'.cell? ⟨sc, k, none⟩ = some (.int .i64 kk)) (go_keep)
        (first | (go_at_call 53; refine (refFits_any _ _ _ _ hkt).mono ?_; rintro e w1 ⟨rfl, rfl⟩))
      go_wp2
      go_ret2
      exact ⟨rfl, (hB.alloc (by omega) _).drew⟩

def RefAppAt (base tb : Nat) (ks : List Int) (R : List RRow) (sv fv : Value) (r : List (Int × ByteArray)) (w : World) (e : Ending) (w' : World) : Prop :=
  (1000 ≤ R.length ∧ e = .returned (.tuple #[.int .i64 6, .int .i64 0]) ∧ Below w.heap.size w w') ∨ (R.length < 1000 ∧ e = .returned (.tuple #[.int .i64 0, .int .i64 0]) ∧
    ∃ fv' p, RefAt w' base tb ks (R ++ [p]) sv fv' ∧ p.r = r ∧ w.heap.size ≤ p.g ∧ Fr (tb :: fv.ownBlock.toList) w w' ∧ (fv'.ownBlock = fv.ownBlock ∨ ∃ k, fv'.ownBlock = some k ∧ w.heap.size ≤ k))

set_option maxRecDepth 100000 in
set_option maxHeartbeats 1000000 in
theorem refAppend_ok (base tb : Nat) (ks : List Int) (R : List RRow) (sv : Value) (fv : Value) (r : List (Int × ByteArray)) (g zo cap : Nat) (w : World) (h : RefAt w base tb ks R sv fv) (hbase : base ≤ w.heap.size) (hR : R.length ≤ 1000) (hk : 0 < ks.length) (hty : ∀ x ∈ ks, isTypeB x = true)
    (hin : RowO w g zo r) (hr : r.length ≤ 1000) (hfit : FitsRow ks r) :
    Calls Tryd.prog 39 #[.pointer (some ⟨tb, 0, none⟩), .slice (some ⟨g, zo, none⟩) r.length cap] w (RefAppAt base tb ks R sv fv r w) := by
  obtain ⟨i0, hi0, hz0, hz1, hz2⟩ := info_parts info_row
  obtain ⟨j0, hj0, hy0, hy1, hy2⟩ := info_parts info_value
  obtain ⟨sc, scap, rfl, hkin, hsc0, scs, hscs⟩ := h.kinds hk
  have hsc : sc < w.heap.size := hkin.lt hk
  have htb : tb < w.heap.size := (Array.getElem?_eq_some_iff.1 h.blk).1
  have c0 : w.cell? ⟨tb, 0, none⟩ = some (.slice (some ⟨sc, 0, none⟩) ks.length scap) := by rw [cell_of_row _ _ _ _ _ _ h.blk]; rfl
  have c1 : w.cell? ⟨tb, 1, none⟩ = some fv := by rw [cell_of_row _ _ _ _ _ _ h.blk]; rfl
  have f1 : w.frozen? ⟨tb, 1, none⟩ = false := by simp [World.frozen?, h.blk]
  have hlen := hfit.1
  have hg : g < w.heap.size := hin.lt (by omega)
  have hne : ((r.length : Int) != (r.length : Int)) = false := by simp
  have hown := h.rows.own
  have hnb : some tb ≠ fv.ownBlock := fun e => by
    rcases hown.2 with ⟨h1, _⟩ | ⟨gg, cp, cur, h1, _, h2, _⟩
    · rw [h1] at e; cases e
    · rw [h1] at e
      simp only [Value.ownBlock, Option.some.injEq] at e
      rw [← e, h.blk] at h2
      simp at h2
  obtain ⟨fa, fc, hfe⟩ : ∃ a cp, fv = .slice a R.length cp := by
    rcases hown.2 with ⟨h1, h2⟩ | ⟨gg, cp, _, h1, _⟩
    · exact ⟨none, 0, by rw [h1, h2]⟩
    · exact ⟨_, cp, h1⟩
  subst hfe
  have HH : Hid (RefAt w base tb ks R (.slice (some ⟨sc, 0, none⟩) ks.length scap) (.slice fa R.length fc)) := h
  have HIN : Hid (RowO w g zo r) := hin
  have HK : Hid (KindsIn w sc ks) := hkin
  have HTY : Hid (∀ x ∈ ks, isTypeB x = true) := hty
  have HFT : Hid (∀ i (h : i < ks.length) (h' : i < r.length), fitsB ks[i] r[i].1 r[i].2 = true) := hfit.2
  have HC1 : Hid (w.cell? ⟨tb, 1, none⟩ = some (.slice fa R.length fc)) := c1
  have HF1 : Hid (w.frozen? ⟨tb, 1, none⟩ = false) := f1
  have HO : Hid (w.ownsRow base 25 1 (.slice fa R.length fc) R.length (R.map rrval)) := hown
  rw [← hlen] at c0
  have hkl : ks.length = r.length := hlen.symm
  have hr0 : 0 < r.length := by omega
  clear h hin hkin hty hfit hlen hown c1 f1 hscs
  go_enter Tryd.func39, Tryd.ntmps39
  go_wp2_with fail
  go_loopw [6] (fun x wr => ∃ k : Nat, k ≤ r.length ∧ x = .int .i64 k ∧ Below w.heap.size w wr) (fun x _ => r.length - (intOf x).toNat)
  case atStart => exact ⟨0, Nat.zero_le _, rfl, Below.refl _ _⟩
  case round =>
    obtain ⟨k, hk', rfl, hB⟩ := hrel
    have hz := hB.size
    by_cases hlt : k < r.length
    · obtain ⟨e1, e2⟩ := HIN.out k hlt
      have d1 : wr.cell? ⟨g, zo + k * 2, none⟩ = some (.int .i64 r[k].1) := (hB.cell (p := ⟨g, zo + k * 2, none⟩) hg).trans e1
      have d2 : wr.cell? ⟨g, zo + k * 2 + 1, none⟩ = some (.string r[k].2) := (hB.cell (p := ⟨g, zo + k * 2 + 1, none⟩) hg).trans e2
      have d3 : wr.cell? ⟨tb, 0, none⟩ = some (.slice (some ⟨sc, 0, none⟩) r.length scap) := (hB.cell (p := ⟨tb, 0, none⟩) htb).trans c0
      have d4 : wr.cell? ⟨sc, k, none⟩ = some (.int .i64 (ks[k]'(by omega))) := (hB.cell (p := ⟨sc, k, none⟩) hsc).trans (HK.out k (by omega))
      have hkt : isTypeB (ks[k]'(by omega)) = true := HTY.out _ (List.getElem_mem _)
      have hf : fitsB (ks[k]'(by omega)) r[k].1 r[k].2 = true := HFT.out k (by omega) hlt
      have hk0 : (0 : Int) ≤ (k : Int) := by omega
      have hk1 : (k : Int) < (r.length : Int) := by omega
      generalize ks[k]'(by omega) = kk at d4 hf hkt
      generalize r[k].1 = rn at *
      generalize r[k].2 = rs at *
      have n1 := World.new_ne _ _ d3
      have n2 := World.new_ne _ _ d4
      have n3 := World.new_ne _ _ d1
      clear e1 e2
      go_wp2_with fail
      go_region_held3 (fun w' => w'.cell? ⟨g, zo + k * 2, none⟩ = some (.int .i64 rn) ∧ w'.cell? ⟨g, zo + k * 2 + 1, none⟩ = some (.string rs) ∧ w'.cell? ⟨tb, 0, none⟩ = some (.slice (some ⟨sc, 0, none⟩) r.length scap) ∧ w'.cell? ⟨sc, k, none⟩ = some (.int .i64 kk)) (go_keep)
        (first | (go_at_call 53; refine (refFits_any _ _ _ _ hkt).mono ?_; rintro e w1 ⟨rfl, rfl⟩))
      go_wp2
      go_roundw
      case rel => exact ⟨k + 1, by omega, by go_num, (hB.alloc (by omega) _).drew⟩
      case measure => simp [intOf]; omega
    · have hnk : ¬ (k : Int) < (r.length : Int) := by omega
      have d5 : wr.cell? ⟨tb, 1, none⟩ = some (.slice fa R.length fc) := (hB.cell (p := ⟨tb, 1, none⟩) htb).trans HC1.out
      by_cases hfull : 1000 ≤ R.length
      · have hfi : (1000 : Int) ≤ (R.length : Int) := by omega
        go_wp2
        go_ret2
        exact .inl ⟨hfull, rfl, hB⟩
      · have hfi : ¬ (1000 : Int) ≤ (R.length : Int) := by omega
        have HRI : Hid (RowO wr g zo r) := HIN.out.keep (hB.block g hg)
        have HOW : Hid (wr.ownsRow base 25 1 (.slice fa R.length fc) R.length (R.map rrval)) := ownsRow_below HO.out hB
        have HFW : Hid (wr.frozen? ⟨tb, 1, none⟩ = false) := (hB.frozen (p := ⟨tb, 1, none⟩) htb).trans HF1.out
        go_wp2_with (first
          | (at_builtin; refine wpList_append_lies _ rfl _ _ _ rfl base 30 j0 _ 2 24 Tryd.underlying25 hj0 hy0 hy1 hy2 rfl (by omega) (.slice none 0 0) 0 [] (by rfl) (World.ownsRow_nil _ _ _ _) ⟨g, zo, none⟩ r.length cap (vcells r) (by rfl) (by rw [vcells_length]; omega) (HRI.out.news) (vcells_one r) hr0 (by unfold maxLen; omega) (by omega) (by omega) wr.heap.size rfl ?_
             intro g2 c2 w2 hown2 hgrow2 hat2 hlt2
             have hb2 : Below wr.heap.size wr w2 := below_grown hgrow2
             have hsz2 := hb2.size
             have HOW2 : Hid (w2.ownsRow base 25 1 (.slice fa R.length fc) R.length (R.map rrval)) := ownsRow_below HOW.out hb2
             have HRI2 : Hid (RowIn w2 g2 r) := RowIn.of_own (by simpa using hown2)
             have HBK2 : Hid (∃ cs fr, w2.heap[g2]? = some (.cells cs 30 fr)) := own_blk hown2
             have HFW2 : Hid (w2.frozen? ⟨tb, 1, none⟩ = false) := (hb2.frozen (p := ⟨tb, 1, none⟩) (by simp; omega)).trans HFW.out
             have HAT2 : Hid ((Value.slice none 0 0).ownBlock = some g2 ∨ g2 = wr.heap.size) := hat2
             have d6 : w2.cell? ⟨tb, 1, none⟩ = some (.slice fa R.length fc) := (hb2.cell (p := ⟨tb, 1, none⟩) (by simp; omega)).trans d5
             clear hown2 hgrow2 hat2)
          | (at_builtin; refine wpList_append_lies _ rfl _ _ _ rfl base 25 i0 _ 1 24 Tryd.underlying39 hi0 hz0 hz1 hz2 rfl (by omega) (.slice fa R.length fc) R.length (R.map rrval) (by rfl) (HOW2.out.alloc _) ⟨w2.heap.size, 0, none⟩ 1 1 [.slice (some ⟨g2, 0, none⟩) r.length c2] (by rfl) (by rfl) (World.news_of_block (cs := #[.slice (some ⟨g2, 0, none⟩) r.length c2]) (t := 25) (fr := (0, 0)) (heap_alloc_new w2 _)) (by simp [Value.oneCell']) (by omega) (by unfold maxLen; omega) (by omega) (by simp; omega) (w2.heap.size + 1) (by simp) ?_
             intro gg cp w4 hown4 hgrow hat hlt4
             have q1 : w4.cell? ⟨tb, 1, none⟩ = some (.slice fa R.length fc) := (hgrow.cell_far ⟨tb, 1, none⟩ (by simp; omega) hnb).trans ((cell_alloc w2 _ tb 1 (by omega)).trans d6)
             have q2 : w4.frozen? ⟨tb, 1, none⟩ = false := (hgrow.frozen_far ⟨tb, 1, none⟩ (by simp; omega) hnb).trans ((frozen_alloc w2 _ tb 1 (by omega)).trans HFW2.out)))
        have hh := HH.out
        rw [hkl] at hh
        have hg2 : w.heap.size ≤ g2 := by
          rcases HAT2.out with x | x
          · cases x
          · omega
        have hcl := ref_append_close hh rfl hbase (hB.trans (hb2.mono hz)) hg2 HRI2.out HBK2.out hown4 hgrow hat
        clear q1 q2 d6
        go_ret2
        exact .inr ⟨by omega, rfl, hcl⟩

end Go.Proofs.YtcconhgbefhdeaaDoor
