import Derived.Test.YtcconhgbefhdeaaDoorRefScan
import Derived.Deep.RegionLaw
namespace Go.Proofs.YtcconhgbefhdeaaDoor
open Go.RowKit
attribute [local go_sem ↓] Go.wp_at_zero Go.wp_at_succ

theorem below_grown {w w' : World} (h : w.grownBy w' none) : Below w.heap.size w w' := ⟨h.os, h.tape, h.output, h.size, fun k hk => h.block k hk (by simp)⟩

theorem ref_append_close {base tb : Nat} {ks : List Int} {R : List RRow} {sv : Value} {fa : Option Addr} {n fc : Nat} {r : List (Int × ByteArray)} {w w2 w3 : World} {o : Obj} {g c2 gg cp : Nat}
    (h : RefAt w base tb ks R sv (.slice fa n fc)) (hn : R.length = n) (hbase : base ≤ w.heap.size) (hb : Below w.heap.size w w2)
    (hg : w.heap.size ≤ g) (hrin : RowIn w2 g r) (hblk : ∃ cs fr, w2.heap[g]? = some (.cells cs 30 fr))
    (hown : w3.ownsRow base 25 1 (.slice (some ⟨gg, 0, none⟩) (n + 1) cp) (n + 1) (R.map rrval ++ [.slice (some ⟨g, 0, none⟩) r.length c2]))
    (hgrow : (w2.alloc o).grownBy w3 (Value.slice fa n fc).ownBlock) (hat : (Value.slice fa n fc).ownBlock = some gg ∨ gg = w2.heap.size + 1) :
    ∃ fv' p, RefAt (w3.setCell ⟨tb, 1, none⟩ (.slice (some ⟨gg, 0, none⟩) (n + 1) cp)) base tb ks (R ++ [p]) sv fv' ∧ p.r = r ∧ w.heap.size ≤ p.g ∧
      Fr (tb :: (Value.slice fa n fc).ownBlock.toList) w (w3.setCell ⟨tb, 1, none⟩ (.slice (some ⟨gg, 0, none⟩) (n + 1) cp)) ∧ (fv'.ownBlock = (Value.slice fa n fc).ownBlock ∨ ∃ k, fv'.ownBlock = some k ∧ w.heap.size ≤ k) := by
  have s1 := hb.size
  have htb : tb < w.heap.size := (Array.getElem?_eq_some_iff.1 h.blk).1
  have hF : Fr (Value.slice fa n fc).ownBlock.toList w w3 := by
    refine (Fr.of_below (S := (Value.slice fa n fc).ownBlock.toList) hb).alloc o |>.grown hgrow (fun k hk => ?_)
    left; rw [hk]; simp
  have hown0 : ∀ k t, (Value.slice fa n fc).ownBlock = some k → (∃ cs fr, w.heap[k]? = some (.cells cs t fr)) → t = 25 := fun k t e ⟨cs, fr, hk⟩ => by
    rcases h.rows.own.2 with ⟨h1, _⟩ | ⟨gg, cp, cur, h1, _, h2, _⟩
    · rw [h1] at e; cases e
    · rw [h1] at e
      simp only [Value.ownBlock, Option.some.injEq] at e
      rw [e, hk] at h2
      simp at h2
      exact h2.2.1
  have hnb : tb ∉ (Value.slice fa n fc).ownBlock.toList := by
    intro hm
    have e : (Value.slice fa n fc).ownBlock = some tb := by simpa using hm
    have := hown0 tb _ e ⟨_, _, h.blk⟩
    cases this
  have hgb : gg ≠ tb := by
    rintro rfl
    rcases hat with h1 | h1
    · exact hnb (by rw [h1]; simp)
    · omega
  have hb3 : w3.heap[tb]? = some (.cells #[sv, .slice fa n fc] 84 (0, 0)) := (hF.block tb htb hnb).trans h.blk
  refine ⟨.slice (some ⟨gg, 0, none⟩) (n + 1) cp, ⟨g, c2, r⟩, ⟨?_, h.lo, ?_, ?_⟩, rfl, hg, (hF.mono (T := tb :: (Value.slice fa n fc).ownBlock.toList) (fun i hi => List.mem_cons_of_mem _ hi)).setCell (p := ⟨tb, 1, none⟩) (.inl (List.mem_cons_self (a := tb))) _, ?_⟩
  · exact heap_setCell_same _ _ _ _ _ _ hb3
  · refine World.ownsRow.kept (w := w3) ?_ (row := some tb) ⟨rfl, rfl, rfl, by simp [World.setCell], fun k hk hne => heap_setCell_other _ _ _ _ (fun e => hne (by rw [e]))⟩ ?_
    · refine ⟨h.sch.1, ?_⟩
      rcases h.sch.2 with h1 | ⟨g, cap, cur, hv, hg, hh, rest⟩
      · exact .inl h1
      · refine .inr ⟨g, cap, cur, hv, hg, ?_, rest⟩
        rw [hF.block g (Array.getElem?_eq_some_iff.1 hh).1 ?_]
        · exact hh
        · intro hm
          have e : (Value.slice fa n fc).ownBlock = some g := by simpa using hm
          have := hown0 g _ e ⟨_, _, hh⟩
          cases this
    · rcases h.sch.2 with ⟨h1, _⟩ | ⟨g, cap, cur, hv, hg, hh, rest⟩
      · left; rw [h1]; rfl
      · right; rw [hv]; simp only [Value.ownBlock]; intro e
        simp only [Option.some.injEq] at e
        rw [e, h.blk] at hh
        simp at hh
  · refine ⟨?_, ?_⟩
    · have : (R ++ [(⟨g, c2, r⟩ : RRow)]).length = n + 1 := by simp [hn]
      rw [this, List.map_append]
      refine World.ownsRow.kept (w := w3) hown (row := some tb) ⟨rfl, rfl, rfl, by simp [World.setCell], fun k hk hne => heap_setCell_other _ _ _ _ (fun e => hne (by rw [e]))⟩ (.inr ?_)
      simp only [Value.ownBlock]; intro e; simp only [Option.some.injEq] at e; exact hgb e
    · intro p hp
      rcases List.mem_append.1 hp with hp | hp
      · obtain ⟨h1, h2, cs, fr, h3⟩ := h.rows.row p hp
        have hlt : p.g < w.heap.size := (Array.getElem?_eq_some_iff.1 h3).1
        have hne : p.g ≠ tb := by intro e; rw [e, h.blk] at h3; simp at h3
        have he : (w3.setCell ⟨tb, 1, none⟩ (.slice (some ⟨gg, 0, none⟩) (n + 1) cp)).heap[p.g]? = w.heap[p.g]? := by
          rw [heap_setCell_other _ _ _ _ hne, hF.block p.g hlt ?_]
          intro hm
          have e : (Value.slice fa n fc).ownBlock = some p.g := by simpa using hm
          have := hown0 p.g _ e ⟨_, _, h3⟩
          cases this
        exact ⟨h1, h2.keep he, cs, fr, he.trans h3⟩
      · have e : p = ⟨g, c2, r⟩ := by simpa using hp
        subst e
        obtain ⟨cs, fr, h3⟩ := hblk
        have hlt : g < w2.heap.size := (Array.getElem?_eq_some_iff.1 h3).1
        have hne : g ≠ tb := by omega
        have he : (w3.setCell ⟨tb, 1, none⟩ (.slice (some ⟨gg, 0, none⟩) (n + 1) cp)).heap[g]? = w2.heap[g]? := by
          rw [heap_setCell_other _ _ _ _ hne, hgrow.block g (by simp; omega) ?_, Below.heap_alloc _ _ _ hlt]
          intro e
          rcases h.rows.own.lt g e.symm with ⟨_, h2⟩
          omega
        exact ⟨by simp; omega, hrin.keep he, cs, fr, he.trans h3⟩
  · simp only [Value.ownBlock] at hat ⊢
    rcases hat with h1 | h1
    · left; rw [h1]
    · right; exact ⟨gg, rfl, by omega⟩

theorem RowIn.news {w : World} {g : Nat} {r : List (Int × ByteArray)} (h : RowIn w g r) : ∀ j u, (vcells r)[j]? = some u → w.cell? ((⟨g, 0, none⟩ : Addr).add j) = some u := fun j u hu => by
  have hadd : (⟨g, 0, none⟩ : Addr).add j = ⟨g, j, none⟩ := by unfold Addr.add; split <;> simp_all
  rw [hadd]
  have hj : j < 2 * r.length := by
    have := (List.getElem?_eq_some_iff.1 hu).1
    rwa [vcells_length] at this
  obtain ⟨a1, a2⟩ := vcells_at r (j / 2) (by omega)
  obtain ⟨b1, b2⟩ := h (j / 2) (by omega)
  rcases Nat.mod_two_eq_zero_or_one j with hm | hm
  · have e : 2 * (j / 2) = j := by omega
    rw [e, hu] at a1
    rw [a1, ← b1]
    congr 2
    omega
  · have e : 2 * (j / 2) + 1 = j := by omega
    rw [e, hu] at a2
    rw [a2, ← b2]
    congr 2
    omega

theorem addr_plus (g zo j : Nat) : (⟨g, zo, none⟩ : Addr).add j = ⟨g, zo + j, none⟩ := by unfold Addr.add; split <;> simp_all

theorem RowO.news {w : World} {g zo : Nat} {r : List (Int × ByteArray)} (h : RowO w g zo r) : ∀ j u, (vcells r)[j]? = some u → w.cell? ((⟨g, zo, none⟩ : Addr).add j) = some u := fun j u hu => by
  rw [addr_plus]
  have hj : j < 2 * r.length := by
    have := (List.getElem?_eq_some_iff.1 hu).1
    rwa [vcells_length] at this
  obtain ⟨a1, a2⟩ := vcells_at r (j / 2) (by omega)
  obtain ⟨b1, b2⟩ := h (j / 2) (by omega)
  rcases Nat.mod_two_eq_zero_or_one j with hm | hm
  · have e : 2 * (j / 2) = j := by omega
    rw [e, hu] at a1
    rw [a1, ← b1]
    congr 2
    omega
  · have e : 2 * (j / 2) + 1 = j := by omega
    rw [e, hu] at a2
    rw [a2, ← b2]
    congr 2
    omega

theorem RowIn.of_own {w : World} {base g cap n : Nat} {r : List (Int × ByteArray)} (h : w.ownsRow base 30 2 (.slice (some ⟨g, 0, none⟩) n cap) n (vcells r)) : RowIn w g r := fun i hi => by
  obtain ⟨a1, a2⟩ := vcells_at r i hi
  have hadd : ∀ j, (⟨g, 0, none⟩ : Addr).add j = ⟨g, j, none⟩ := fun j => by unfold Addr.add; split <;> simp_all
  have c1 := h.cells (g := g) rfl (2 * i) _ a1
  have c2 := h.cells (g := g) rfl (2 * i + 1) _ a2
  rw [hadd, show 2 * i = i * 2 by omega] at c1
  rw [hadd, show 2 * i = i * 2 by omega] at c2
  exact ⟨c1, c2⟩

theorem own_blk {w : World} {base g cap n : Nat} {xs : List Value} {t : TypeId} {sz : Nat} (h : w.ownsRow base t sz (.slice (some ⟨g, 0, none⟩) n cap) n xs) : ∃ cs fr, w.heap[g]? = some (.cells cs t fr) := by
  rcases h.2 with ⟨h1, _⟩ | ⟨gg, cp, cur, h1, _, h2, _⟩
  · cases h1
  · simp only [Value.slice.injEq, Option.some.injEq, Addr.mk.injEq, true_and, and_true] at h1
    rw [h1.1]; exact ⟨_, _, h2⟩

set_option maxRecDepth 100000 in
set_option maxHeartbeats 1000000 in
theorem refAppend_len (tb sc scap : Nat) (ks : List Int) (r : List (Int × ByteArray)) (ra : Option Addr) (cap : Nat) (w : World) (hs : w.cell? ⟨tb, 0, none⟩ = some (.slice (some ⟨sc, 0, none⟩) ks.length scap)) (hne : r.length ≠ ks.length) :
    Calls Tryd.prog 39 #[.pointer (some ⟨tb, 0, none⟩), .slice ra r.length cap] w fun e w' => e = .returned (.tuple #[.int .i64 2, .int .i64 (-1)]) ∧ Below w.heap.size w w' := by
  have h : ((r.length : Int) != (ks.length : Int)) = true := by rw [bne_iff_ne]; omega
  go_enter Tryd.func39, Tryd.ntmps39
  go_wp2
  go_ret2
  exact ⟨rfl, Below.refl _ _⟩

set_option maxRecDepth 100000 in
set_option maxHeartbeats 1000000 in
theorem refAppend_fit (tb sc scap : Nat) (ks : List Int) (r : List (Int × ByteArray)) (g zo cap : Nat) (w : World) (hs : w.cell? ⟨tb, 0, none⟩ = some (.slice (some ⟨sc, 0, none⟩) ks.length scap)) (hks : KindsIn w sc ks) (hty : ∀ x ∈ ks, isTypeB x = true)
    (hin : RowO w g zo r) (hr : r.length ≤ 1000) (hlen : r.length = ks.length) (i : Nat) (hb : firstBad (fitAt ks r) ks.length = some i) :
    Calls Tryd.prog 39 #[.pointer (some ⟨tb, 0, none⟩), .slice (some ⟨g, zo, none⟩) r.length cap] w fun e w' => e = .returned (.tuple #[.int .i64 2, .int .i64 i]) ∧ Below w.heap.size w w' := by
  obtain ⟨hi, hbad, hgood⟩ := firstBad_some _ _ _ hb
  have htb : tb < w.heap.size := World.block_lt_of_cell? w ⟨tb, 0, none⟩ hs
  have hg : g < w.heap.size := hin.lt (by omega)
  have hsc : sc < w.heap.size := hks.lt (by omega)
  have hne : ((r.length : Int) != (r.length : Int)) = false := by simp
  have HB : Hid (fitAt ks r i = false) := hbad
  have HG : Hid (∀ j, j < i → fitAt ks r j = true) := hgood
  have HIN : Hid (RowO w g zo r) := hin
  have HK : Hid (KindsIn w sc ks) := hks
  have HTY : Hid (∀ x ∈ ks, isTypeB x = true) := hty
  rw [← hlen] at hs
  have hkl : ks.length = r.length := hlen.symm
  clear hb hbad hgood hin hks hty hlen
  go_enter Tryd.func39, Tryd.ntmps39
  go_wp2_with fail
  go_loopw [6] (fun x wr => ∃ k : Nat, k ≤ i ∧ x = .int .i64 k ∧ Below w.heap.size w wr) (fun x _ => r.length - (intOf x).toNat)
  case atStart => exact ⟨0, Nat.zero_le _, rfl, Below.refl _ _⟩
  case round =>
    obtain ⟨k, hk, rfl, hB⟩ := hrel
    have hlt : k < r.length := by omega
    obtain ⟨c1, c2⟩ := HIN.out k hlt
    have hz := hB.size
    have d1 : wr.cell? ⟨g, zo + k * 2, none⟩ = some (.int .i64 r[k].1) := (hB.cell (p := ⟨g, zo + k * 2, none⟩) hg).trans c1
    have d2 : wr.cell? ⟨g, zo + k * 2 + 1, none⟩ = some (.string r[k].2) := (hB.cell (p := ⟨g, zo + k * 2 + 1, none⟩) hg).trans c2
    have d3 : wr.cell? ⟨tb, 0, none⟩ = some (.slice (some ⟨sc, 0, none⟩) r.length scap) := (hB.cell (p := ⟨tb, 0, none⟩) htb).trans hs
    have d4 : wr.cell? ⟨sc, k, none⟩ = some (.int .i64 (ks[k]'(by omega))) := (hB.cell (p := ⟨sc, k, none⟩) hsc).trans (HK.out k (by omega))
    have hkt : isTypeB (ks[k]'(by omega)) = true := HTY.out _ (List.getElem_mem _)
    have hfe : fitAt ks r k = fitsB (ks[k]'(by omega)) r[k].1 r[k].2 := by unfold fitAt; simp [List.getD, hlt, show k < ks.length by omega]
    have HFE : Hid (fitAt ks r k = fitsB (ks[k]'(by omega)) r[k].1 r[k].2) := hfe
    have hk0 : (0 : Int) ≤ (k : Int) := by omega
    have hk1 : (k : Int) < (r.length : Int) := by omega
    generalize ks[k]'(by omega) = kk at d4 HFE hkt
    generalize r[k].1 = rn at *
    generalize r[k].2 = rs at *
    have n1 := World.new_ne _ _ d3
    have n2 := World.new_ne _ _ d4
    have n3 := World.new_ne _ _ d1
    clear c1 c2 hfe
    by_cases hki : k < i
    · have hf : fitsB kk rn rs = true := by rw [← HFE.out]; exact HG.out k hki
      go_wp2_with fail
      go_region_held3 (fun w' => w'.cell? ⟨g, zo + k * 2, none⟩ = some (.int .i64 rn) ∧ w'.cell? ⟨g, zo + k * 2 + 1, none⟩ = some (.string rs) ∧ w'.cell? ⟨tb, 0, none⟩ = some (.slice (some ⟨sc, 0, none⟩) r.length scap) ∧ w'.cell? ⟨sc, k, none⟩ = some (.int .i64 kk)) (go_keep)
        (first | (go_at_call 53; refine (refFits_any _ _ _ _ hkt).mono ?_; rintro e w1 ⟨rfl, rfl⟩))
      go_wp2
      go_roundw
      case rel => exact ⟨k + 1, by omega, by go_num, (hB.alloc (by omega) _).drew⟩
      case measure => simp [intOf]; omega
    · have hke : k = i := by omega
      have hf : fitsB kk rn rs = false := by rw [← HFE.out, hke]; exact HB.out
      subst hke
      go_wp2_with fail
      go_region_held3 (fun w' => w'.cell? ⟨g, zo + k * 2, none⟩ = some (.int .i64 rn) ∧ w'.cell? ⟨g, zo + k * 2 + 1, none⟩ = some (.string rs) ∧ w'.cell? ⟨tb, 0, none⟩ = some (.slice (some ⟨sc, 0, none⟩) r.length scap) ∧ w'.cell? ⟨sc, k, none⟩ = some (.int .i64 kk)) (go_keep)
        (first | (go_at_call 53; refine (refFits_any _ _ _ _ hkt).mono ?_; rintro e w1 ⟨rfl, rfl⟩))
      go_wp2
      go_ret2
      exact ⟨rfl, (hB.alloc (by omega) _).drew⟩

def RefAppAt (base tb : Nat) (ks : List Int) (R : List RRow) (sv fv : Value) (r : List (Int × ByteArray)) (w : World) (e : Ending) (w' : World) : Prop :=
  (1000 ≤ R.length ∧ e = .returned (.tuple #[.int .i64 6, .int .i64 0]) ∧ Below w.heap.size w w') ∨ (R.length < 1000 ∧ e = .returned (.tuple #[.int .i64 0, .int .i64 0]) ∧
    ∃ fv' p, RefAt w' base tb ks (R ++ [p]) sv fv' ∧ p.r = r ∧ w.heap.size ≤ p.g ∧ Fr (tb :: fv.ownBlock.toList) w w' ∧ (fv'.ownBlock = fv.ownBlock ∨ ∃ k, fv'.ownBlock = some k ∧ w.heap.size ≤ k))

set_option maxRecDepth 100000 in
set_option maxHeartbeats 1000000 in
theorem refAppend_ok (base tb : Nat) (ks : List Int) (R : List RRow) (sv : Value) (fv : Value) (r : List (Int × ByteArray)) (g zo cap : Nat) (w : World) (h : RefAt w base tb ks R sv fv) (hbase : base ≤ w.heap.size) (hR : R.length ≤ 1000) (hk : 0 < ks.length) (hty : ∀ x ∈ ks, isTypeB x = true)
    (hin : RowO w g zo r) (hr : r.length ≤ 1000) (hfit : FitsRow ks r) :
    Calls Tryd.prog 39 #[.pointer (some ⟨tb, 0, none⟩), .slice (some ⟨g, zo, none⟩) r.length cap] w (RefAppAt base tb ks R sv fv r w) := by
  obtain ⟨i0, hi0, hz0, hz1, hz2⟩ := info_parts info_row
  obtain ⟨j0, hj0, hy0, hy1, hy2⟩ := info_parts info_value
  obtain ⟨sc, scap, rfl, hkin, hsc0, scs, hscs⟩ := h.kinds hk
  have hsc : sc < w.heap.size := hkin.lt hk
  have htb : tb < w.heap.size := (Array.getElem?_eq_some_iff.1 h.blk).1
  have c0 : w.cell? ⟨tb, 0, none⟩ = some (.slice (some ⟨sc, 0, none⟩) ks.length scap) := by rw [cell_of_row _ _ _ _ _ _ h.blk]; rfl
  have c1 : w.cell? ⟨tb, 1, none⟩ = some fv := by rw [cell_of_row _ _ _ _ _ _ h.blk]; rfl
  have f1 : w.frozen? ⟨tb, 1, none⟩ = false := by simp [World.frozen?, h.blk]
  have hlen := hfit.1
  have hg : g < w.heap.size := hin.lt (by omega)
  have hne : ((r.length : Int) != (r.length : Int)) = false := by simp
  have hown := h.rows.own
  have hnb : some tb ≠ fv.ownBlock := fun e => by
    rcases hown.2 with ⟨h1, _⟩ | ⟨gg, cp, cur, h1, _, h2, _⟩
    · rw [h1] at e; cases e
    · rw [h1] at e
      simp only [Value.ownBlock, Option.some.injEq] at e
      rw [← e, h.blk] at h2
      simp at h2
  obtain ⟨fa, fc, hfe⟩ : ∃ a cp, fv = .slice a R.length cp := by
    rcases hown.2 with ⟨h1, h2⟩ | ⟨gg, cp, _, h1, _⟩
    · exact ⟨none, 0, by rw [h1, h2]⟩
    · exact ⟨_, cp, h1⟩
  subst hfe
  have HH : Hid (RefAt w base tb ks R (.slice (some ⟨sc, 0, none⟩) ks.length scap) (.slice fa R.length fc)) := h
  have HIN : Hid (RowO w g zo r) := hin
  have HK : Hid (KindsIn w sc ks) := hkin
  have HTY : Hid (∀ x ∈ ks, isTypeB x = true) := hty
  have HFT : Hid (∀ i (h : i < ks.length) (h' : i < r.length), fitsB ks[i] r[i].1 r[i].2 = true) := hfit.2
  have HC1 : Hid (w.cell? ⟨tb, 1, none⟩ = some (.slice fa R.length fc)) := c1
  have HF1 : Hid (w.frozen? ⟨tb, 1, none⟩ = false) := f1
  have HO : Hid (w.ownsRow base 25 1 (.slice fa R.length fc) R.length (R.map rrval)) := hown
  rw [← hlen] at c0
  have hkl : ks.length = r.length := hlen.symm
  have hr0 : 0 < r.length := by omega
  clear h hin hkin hty hfit hlen hown c1 f1 hscs
  go_enter Tryd.func39, Tryd.ntmps39
  go_wp2_with fail
  go_loopw [6] (fun x wr => ∃ k : Nat, k ≤ r.length ∧ x = .int .i64 k ∧ Below w.heap.size w wr) (fun x _ => r.length - (intOf x).toNat)
  case atStart => exact ⟨0, Nat.zero_le _, rfl, Below.refl _ _⟩
  case round =>
    obtain ⟨k, hk', rfl, hB⟩ := hrel
    have hz := hB.size
    by_cases hlt : k < r.length
    · obtain ⟨e1, e2⟩ := HIN.out k hlt
      have d1 : wr.cell? ⟨g, zo + k * 2, none⟩ = some (.int .i64 r[k].1) := (hB.cell (p := ⟨g, zo + k * 2, none⟩) hg).trans e1
      have d2 : wr.cell? ⟨g, zo + k * 2 + 1, none⟩ = some (.string r[k].2) := (hB.cell (p := ⟨g, zo + k * 2 + 1, none⟩) hg).trans e2
      have d3 : wr.cell? ⟨tb, 0, none⟩ = some (.slice (some ⟨sc, 0, none⟩) r.length scap) := (hB.cell (p := ⟨tb, 0, none⟩) htb).trans c0
      have d4 : wr.cell? ⟨sc, k, none⟩ = some (.int .i64 (ks[k]'(by omega))) := (hB.cell (p := ⟨sc, k, none⟩) hsc).trans (HK.out k (by omega))
      have hkt : isTypeB (ks[k]'(by omega)) = true := HTY.out _ (List.getElem_mem _)
      have hf : fitsB (ks[k]'(by omega)) r[k].1 r[k].2 = true := HFT.out k (by omega) hlt
      have hk0 : (0 : Int) ≤ (k : Int) := by omega
      have hk1 : (k : Int) < (r.length : Int) := by omega
      generalize ks[k]'(by omega) = kk at d4 hf hkt
      generalize r[k].1 = rn at *
      generalize r[k].2 = rs at *
      have n1 := World.new_ne _ _ d3
      have n2 := World.new_ne _ _ d4
      have n3 := World.new_ne _ _ d1
      clear e1 e2
      go_wp2_with fail
      go_region_held3 (fun w' => w'.cell? ⟨g, zo + k * 2, none⟩ = some (.int .i64 rn) ∧ w'.cell? ⟨g, zo + k * 2 + 1, none⟩ = some (.string rs) ∧ w'.cell? ⟨tb, 0, none⟩ = some (.slice (some ⟨sc, 0, none⟩) r.length scap) ∧ w'.cell? ⟨sc, k, none⟩ = some (.int .i64 kk)) (go_keep)
        (first | (go_at_call 53; refine (refFits_any _ _ _ _ hkt).mono ?_; rintro e w1 ⟨rfl, rfl⟩))
      go_wp2
      go_roundw
      case rel => exact ⟨k + 1, by omega, by go_num, (hB.alloc (by omega) _).drew⟩
      case measure => simp [intOf]; omega
    · have hnk : ¬ (k : Int) < (r.length : Int) := by omega
      have d5 : wr.cell? ⟨tb, 1, none⟩ = some (.slice fa R.length fc) := (hB.cell (p := ⟨tb, 1, none⟩) htb).trans HC1.out
      by_cases hfull : 1000 ≤ R.length
      · have hfi : (1000 : Int) ≤ (R.length : Int) := by omega
        go_wp2
        go_ret2
        exact .inl ⟨hfull, rfl, hB⟩
      · have hfi : ¬ (1000 : Int) ≤ (R.length : Int) := by omega
        have HRI : Hid (RowO wr g zo r) := HIN.out.keep (hB.block g hg)
        have HOW : Hid (wr.ownsRow base 25 1 (.slice fa R.length fc) R.length (R.map rrval)) := ownsRow_below HO.out hB
        have HFW : Hid (wr.frozen? ⟨tb, 1, none⟩ = false) := (hB.frozen (p := ⟨tb, 1, none⟩) htb).trans HF1.out
        go_wp2_with (first
          | (at_builtin; refine wpList_append_lies _ rfl _ _ _ rfl base 30 j0 _ 2 24 Tryd.underlying25 hj0 hy0 hy1 hy2 rfl (by omega) (.slice none 0 0) 0 [] (by rfl) (World.ownsRow_nil _ _ _ _) ⟨g, zo, none⟩ r.length cap (vcells r) (by rfl) (by rw [vcells_length]; omega) (HRI.out.news) (vcells_one r) hr0 (by unfold maxLen; omega) (by omega) (by omega) wr.heap.size rfl ?_
             intro g2 c2 w2 hown2 hgrow2 hat2 hlt2
             have hb2 : Below wr.heap.size wr w2 := below_grown hgrow2
             have hsz2 := hb2.size
             have HOW2 : Hid (w2.ownsRow base 25 1 (.slice fa R.length fc) R.length (R.map rrval)) := ownsRow_below HOW.out hb2
             have HRI2 : Hid (RowIn w2 g2 r) := RowIn.of_own (by simpa using hown2)
             have HBK2 : Hid (∃ cs fr, w2.heap[g2]? = some (.cells cs 30 fr)) := own_blk hown2
             have HFW2 : Hid (w2.frozen? ⟨tb, 1, none⟩ = false) := (hb2.frozen (p := ⟨tb, 1, none⟩) (by simp; omega)).trans HFW.out
             have HAT2 : Hid ((Value.slice none 0 0).ownBlock = some g2 ∨ g2 = wr.heap.size) := hat2
             have d6 : w2.cell? ⟨tb, 1, none⟩ = some (.slice fa R.length fc) := (hb2.cell (p := ⟨tb, 1, none⟩) (by simp; omega)).trans d5
             clear hown2 hgrow2 hat2)
          | (at_builtin; refine wpList_append_lies _ rfl _ _ _ rfl base 25 i0 _ 1 24 Tryd.underlying39 hi0 hz0 hz1 hz2 rfl (by omega) (.slice fa R.length fc) R.length (R.map rrval) (by rfl) (HOW2.out.alloc _) ⟨w2.heap.size, 0, none⟩ 1 1 [.slice (some ⟨g2, 0, none⟩) r.length c2] (by rfl) (by rfl) (World.news_of_block (cs := #[.slice (some ⟨g2, 0, none⟩) r.length c2]) (t := 25) (fr := (0, 0)) (heap_alloc_new w2 _)) (by simp [Value.oneCell']) (by omega) (by unfold maxLen; omega) (by omega) (by simp; omega) (w2.heap.size + 1) (by simp) ?_
             intro gg cp w4 hown4 hgrow hat hlt4
             have q1 : w4.cell? ⟨tb, 1, none⟩ = some (.slice fa R.length fc) := (hgrow.cell_far ⟨tb, 1, none⟩ (by simp; omega) hnb).trans ((cell_alloc w2 _ tb 1 (by omega)).trans d6)
             have q2 : w4.frozen? ⟨tb, 1, none⟩ = false := (hgrow.frozen_far ⟨tb, 1, none⟩ (by simp; omega) hnb).trans ((frozen_alloc w2 _ tb 1 (by omega)).trans HFW2.out)))
        have hh := HH.out
        rw [hkl] at hh
        have hg2 : w.heap.size ≤ g2 := by
          rcases HAT2.out with x | x
          · cases x
          · omega
        have hcl := ref_append_close hh rfl hbase (hB.trans (hb2.mono hz)) hg2 HRI2.out HBK2.out hown4 hgrow hat
        clear q1 q2 d6
        go_ret2
        exact .inr ⟨by omega, rfl, hcl⟩

end Go.Proofs.YtcconhgbefhdeaaDoor
