import Derived.Test.YtnhhaecbcfehcaaDoorPasses
import Derived.Test.YtnhhaecbcfehcaaDoorTable
namespace Go.Proofs.YtnhhaecbcfehcaaDoor
open Go.RowKit

theorem rows_push {wr w3 w4 : World} {base : Nat} {v nv : Value} {M : List (Nat × List (Int × ByteArray))} {g' : Nat} {r : List (Int × ByteArray)} {o : Obj} (h : RowsAt wr base v M) (hb : Below wr.heap.size wr w3)
    (hblk : w3.heap[g']? = some (.cells (vcells r).toArray 30 (0, 0))) (hg' : wr.heap.size ≤ g') (hbase : base ≤ wr.heap.size)
    (hown : w4.ownsRow base 25 1 nv (M.length + 1) (M.map rval ++ [rval (g', r)])) (hgrow : (w3.alloc o).grownBy w4 v.ownBlock) : RowsAt w4 base nv (M ++ [(g', r)]) := by
  have hz := hb.size
  refine ⟨?_, fun p hp => ?_⟩
  · rw [List.length_append, List.map_append]; exact hown
  · rcases List.mem_append.1 hp with hp | hp
    · obtain ⟨h1, h2⟩ := h.blk p hp
      refine ⟨h1, ?_⟩
      unfold RowBlk at h2 ⊢
      have hlt : p.1 < wr.heap.size := (Array.getElem?_eq_some_iff.1 h2).1
      rw [hgrow.block p.1 (by simp; omega) ?_, Below.heap_alloc _ _ _ (by omega), hb.block _ hlt]
      · exact h2
      · intro e
        rcases h.own.2 with ⟨h3, _⟩ | ⟨gg, cp, cur, h3, _, h4, _⟩
        · rw [h3] at e; cases e
        · rw [h3] at e
          simp only [Value.ownBlock, Option.some.injEq] at e
          rw [← e, h2] at h4
          simp at h4
    · have e : p = (g', r) := by simpa using hp
      subst e
      refine ⟨by simp; omega, ?_⟩
      unfold RowBlk
      have hlt : g' < w3.heap.size := (Array.getElem?_eq_some_iff.1 hblk).1
      rw [hgrow.block g' (by simp; omega) ?_, Below.heap_alloc _ _ _ hlt]
      · exact hblk
      · intro e
        rcases h.own.lt g' e.symm with ⟨_, h2⟩
        omega

theorem filter_succ (ks : List Int) (T : List Tst) (L : List (Nat × List (Int × ByteArray))) (k : Nat) (h : k < L.length) :
    ((L.take (k + 1)).map Prod.snd).filter (fun r => passB ks r T) = ((L.take k).map Prod.snd).filter (fun r => passB ks r T) ++ (if passB ks L[k].2 T then [L[k].2] else []) := by
  rw [List.take_succ_eq_append_getElem h, List.map_append, List.filter_append]
  congr 1
  simp [List.filter_cons]

theorem rows_cell {w : World} {base : Nat} {v : Value} {L : List (Nat × List (Int × ByteArray))} (h : RowsAt w base v L) (hl : 0 < L.length) : ∃ fg cp, v = .slice (some ⟨fg, 0, none⟩) L.length cp ∧ fg < w.heap.size ∧ base ≤ fg ∧ ∀ k (hk : k < L.length), w.cell? ⟨fg, k, none⟩ = some (rval L[k]) := by
  obtain ⟨g, cap, hv, h1, h2⟩ := h.own.form hl
  refine ⟨g, cap, hv, h2, h1, fun k hk => ?_⟩
  have := h.own.cells (g := g) (by rw [hv]; rfl) k (rval L[k]) (by simp [hk])
  have hadd : (⟨g, 0, none⟩ : Addr).add k = ⟨g, k, none⟩ := by unfold Addr.add; split <;> simp_all
  rw [hadd] at this
  exact this

set_option maxRecDepth 100000 in
set_option maxHeartbeats 1000000 in
theorem storeScan_ok (base bs : Nat) (ks : List Int) (L : List (Nat × List (Int × ByteArray))) (sv : Value) (fa : Option Addr) (fc : Nat) (tcap : Nat) (ta : Option Addr) (T : List Tst) (w : World) (h : StoreAt w base bs ks L sv (.slice fa L.length fc))
    (hL : L.length ≤ 1000) (hk : 0 < ks.length) (hk6 : ks.length ≤ 6) (hrow : ∀ p ∈ L, p.2.length = ks.length ∧ ∀ x ∈ p.2, x.2.size ≤ 1000000) (hT : TestsAt w ta T) (hv : ValidT ks T) :
    Calls Tryd.prog 23 #[.pointer (some ⟨bs, 0, none⟩), .slice ta T.length tcap] w fun e w' => ∃ v M, e = .returned (.tuple #[v, .nilIface]) ∧
      RowsAt w' w.heap.size v M ∧ M.map Prod.snd = (L.map Prod.snd).filter (fun r => passB ks r T) ∧ Below w.heap.size w w' := by
  obtain ⟨i0, hi0, hz0, hz1, hz2⟩ := info_parts info_row
  obtain ⟨sc, scap, rfl, hkin, hsc0, scs, hscs⟩ := h.kinds hk
  have hsc : sc < w.heap.size := hkin.lt hk
  have hbs : bs < w.heap.size := (Array.getElem?_eq_some_iff.1 h.blk).1
  have c0 : w.cell? ⟨bs, 0, none⟩ = some (.slice (some ⟨sc, 0, none⟩) ks.length scap) := by rw [cell_of_row _ _ _ _ _ _ h.blk]; rfl
  have c1 : w.cell? ⟨bs, 1, none⟩ = some (.slice fa L.length fc) := by rw [cell_of_row _ _ _ _ _ _ h.blk]; rfl
  have HH : Hid (StoreAt w base bs ks L (.slice (some ⟨sc, 0, none⟩) ks.length scap) (.slice fa L.length fc)) := h
  have HK : Hid (KindsIn w sc ks) := hkin
  have HT : Hid (TestsAt w ta T) := hT
  have HV : Hid (ValidT ks T) := hv
  have HR : Hid (∀ p ∈ L, p.2.length = ks.length ∧ ∀ x ∈ p.2, x.2.size ≤ 1000000) := hrow
  clear h hkin hT hv hrow hscs
  go_enter Tryd.func23, Tryd.ntmps23
  go_wp2_with fail
  refine (sieveNew_ok sc scap tcap ta ks T w hk HK.out HT.out HV.out).mono ?_
  rintro e w1 ⟨rfl, hb1⟩
  have hs1 := hb1.size
  have k1 : w1.cell? ⟨bs, 1, none⟩ = some (.slice fa L.length fc) := (hb1.cell (p := ⟨bs, 1, none⟩) hbs).trans c1
  have k1' : ∀ o, (w1.alloc o).cell? ⟨bs, 1, none⟩ = some (.slice fa L.length fc) := fun o => (cell_alloc w1 o _ _ (by omega)).trans k1
  clear c0 c1 k1
  go_wp2_with fail
  go_loopw [8, 28] (fun fnd i wr => ∃ k : Nat, k ≤ L.length ∧ i = .int .i64 k ∧ ∃ M, RowsAt wr w.heap.size fnd M ∧ M.map Prod.snd = ((L.take k).map Prod.snd).filter (fun r => passB ks r T) ∧ Below w.heap.size w wr ∧
    wr.heap[w1.heap.size]? = some (.cells #[.slice (some ⟨sc, 0, none⟩) ks.length scap, .slice ta T.length tcap] 85 (0, 0))) (fun _ i _ => L.length - (intOf i).toNat)
  case atStart => exact ⟨0, Nat.zero_le _, rfl, [], ⟨World.ownsRow_nil _ _ _ _, by simp⟩, rfl, hb1.alloc hs1 _, heap_alloc_new w1 _⟩
  case round =>
    obtain ⟨k, hk', rfl, M, hM, hMe, hB, hbox⟩ := hrel
    have hML : M.length ≤ k := by
      have : (M.map Prod.snd).length ≤ k := by rw [hMe]; exact Nat.le_trans (List.length_filter_le _ _) (by simp; omega)
      simpa using this
    have HM : Hid (RowsAt wr w.heap.size u8 M) := hM
    have HE : Hid (M.map Prod.snd = ((L.take k).map Prod.snd).filter (fun r => passB ks r T)) := hMe
    have hzr : w1.heap.size < wr.heap.size := (Array.getElem?_eq_some_iff.1 hbox).1
    clear hM hMe
    by_cases hlt : k < L.length
    · obtain ⟨fg, cp, hfe, hfg, hfb, hcells⟩ := rows_cell HH.out.rows (by omega)
      simp only [Value.slice.injEq, true_and] at hfe
      obtain ⟨rfl, rfl⟩ := hfe
      have d1 : wr.cell? ⟨fg, k, none⟩ = some (.slice (some ⟨L[k].1, 0, none⟩) L[k].2.length L[k].2.length) := (hB.cell (p := ⟨fg, k, none⟩) hfg).trans (hcells k hlt)
      obtain ⟨rlo, rblk⟩ := HH.out.rows.blk L[k] (List.getElem_mem hlt)
      obtain ⟨rlen, rsz⟩ := HR.out L[k] (List.getElem_mem hlt)
      have RB : Hid (RowBlk w L[k]) := rblk
      have HF : Hid (((L.take (k + 1)).map Prod.snd).filter (fun r => passB ks r T) = ((L.take k).map Prod.snd).filter (fun r => passB ks r T) ++ (if passB ks L[k].2 T then [L[k].2] else [])) := filter_succ ks T L k hlt
      have hrl : L[k].1 < w.heap.size := rblk.lt
      have b0 : wr.cell? ⟨w1.heap.size, 0, none⟩ = some (.slice (some ⟨sc, 0, none⟩) ks.length scap) := by rw [cell_of_row _ _ _ _ _ _ hbox]; rfl
      have b1 : wr.cell? ⟨w1.heap.size, 1, none⟩ = some (.slice ta T.length tcap) := by rw [cell_of_row _ _ _ _ _ _ hbox]; rfl
      have HB : Hid (wr.heap[w1.heap.size]? = some (.cells #[.slice (some ⟨sc, 0, none⟩) ks.length scap, .slice ta T.length tcap] 85 (0, 0))) := hbox
      clear hcells rblk hbox
      have RIN : Hid (RowIn wr L[k].1 L[k].2) := (RB.out.rowIn).keep (hB.block _ hrl)
      have RLEN : Hid (L[k].2.length = ks.length) := rlen
      have RSZ : Hid (∀ x ∈ L[k].2, x.2.size ≤ 1000000) := rsz
      have rl6 : L[k].2.length ≤ 6 := by omega
      clear rlen rsz RB rlo
      generalize L[k].2 = rr at *
      generalize L[k].1 = rg at *
      cases hp : passB ks rr T
      · have HP : Hid (passB ks rr T = false) := hp
        go_wp2_with fail
        refine (passes_ok sc scap tcap ta ks T rg rr.length rr _ hk (HK.out.keep (hB.block sc hsc)) RIN.out RLEN.out (HT.out.keep (fun j hj => hB.block j hj)) HV.out).mono ?_
        rintro e w2 ⟨rfl, hb2⟩
        have hs2 := hb2.size
        clear b0 b1 d1
        go_wp2
        go_roundw
        case rel =>
          refine ⟨k + 1, by omega, by go_num, M, HM.out.keepOn (fun j hj _ => hb2.block j hj), ?_, hB.trans (hb2.mono hB.size), (hb2.block _ hzr).trans HB.out⟩
          rw [HF.out, HP.out, HE.out]; simp
        case measure => simp [intOf]; omega
      · have HP : Hid (passB ks rr T = true) := hp
        go_wp2_with fail
        refine (passes_ok sc scap tcap ta ks T rg rr.length rr _ hk (HK.out.keep (hB.block sc hsc)) RIN.out RLEN.out (HT.out.keep (fun j hj => hB.block j hj)) HV.out).mono ?_
        rintro e w2 ⟨rfl, hb2⟩
        have hs2 := hb2.size
        have hsr := hB.size
        clear b0 b1 d1
        go_wp2_with fail
        refine (apart_any rr rg rr.length w2 (RIN.out.keep (hb2.block _ (by omega))) (by omega) RSZ.out).mono ?_
        rintro e w3 ⟨rfl, hblk3, hb3⟩
        have hs3 := hb3.size
        have HO : Hid (w3.ownsRow w.heap.size 25 1 u8 M.length (M.map rval)) := ownsRow_below (ownsRow_below HM.out.own hb2) hb3
        go_wp2_with (at_builtin; refine wpList_append_lies _ rfl _ _ _ rfl w.heap.size 25 i0 _ 1 24 Tryd.underlying39 hi0 hz0 hz1 hz2 rfl (by omega) u8 M.length (M.map rval) (by rfl) (HO.out.alloc _) ⟨w3.heap.size, 0, none⟩ 1 1 [.slice (some ⟨w2.heap.size, 0, none⟩) rr.length rr.length] (by rfl) (by rfl) (World.news_of_block (cs := #[.slice (some ⟨w2.heap.size, 0, none⟩) rr.length rr.length]) (t := 25) (fr := (0, 0)) (heap_alloc_new w3 _)) (by simp [Value.oneCell']) (by omega) (by unfold maxLen; omega) (by omega) (by simp; omega) (w3.heap.size + 1) (by simp) ?_; intro gg cp w4 hown4 hgrow hat hlt4)
        go_roundw
        case rel =>
          have hne : some w1.heap.size ≠ u8.ownBlock := fun e => by
            rcases HM.out.own.2 with ⟨h3, _⟩ | ⟨gg, cp, cur, h3, _, h4, _⟩
            · rw [h3] at e; cases e
            · rw [h3] at e
              simp only [Value.ownBlock, Option.some.injEq] at e
              rw [← e, HB.out] at h4
              simp at h4
          refine ⟨k + 1, by omega, by go_num, M ++ [(w2.heap.size, rr)], rows_push HM.out (hb2.trans (hb3.mono hs2)) hblk3 hs2 hsr hown4 hgrow, ?_, ?_, ?_⟩
          · rw [HF.out, HP.out, List.map_append, HE.out]; simp
          · refine Below.grown (((hB.trans (hb2.mono hsr)).trans (hb3.mono (by omega))).alloc (by omega) _) hgrow (by simp; omega) (fun j hj => ?_)
            exact (HM.out.own.lt j hj).1
          · rw [hgrow.block w1.heap.size (by simp; omega) hne, Below.heap_alloc _ _ _ (by omega), hb3.block _ (by omega), hb2.block _ hzr]
            exact HB.out
        case measure => simp [intOf]; omega
    · go_wp2
      go_ret2
      have e0 : L.take k = L := List.take_of_length_le (by omega)
      refine ⟨u8, M, rfl, HM.out, ?_, hB⟩
      rw [HE.out, e0]

end Go.Proofs.YtnhhaecbcfehcaaDoor
