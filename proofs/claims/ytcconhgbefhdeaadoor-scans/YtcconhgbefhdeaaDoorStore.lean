import Derived.Test.YtcconhgbefhdeaaDoorCheck
import Derived.Test.YtcconhgbefhdeaaDoorApart
import Derived.Deep.RegionLaw
namespace Go.Proofs.YtcconhgbefhdeaaDoor
open Go.RowKit
attribute [local go_sem ↓] Go.wp_at_zero Go.wp_at_succ

/-- A row with the block in which it lies, as a value. -/
def rval (p : Nat × List (Int × ByteArray)) : Value := .slice (some ⟨p.1, 0, none⟩) p.2.length p.2.length

def RowBlk (w : World) (p : Nat × List (Int × ByteArray)) : Prop := w.heap[p.1]? = some (.cells (vcells p.2).toArray 30 (0, 0))

theorem RowBlk.lt {w : World} {p : Nat × List (Int × ByteArray)} (h : RowBlk w p) : p.1 < w.heap.size := (Array.getElem?_eq_some_iff.1 h).1
theorem RowBlk.rowIn {w : World} {p : Nat × List (Int × ByteArray)} (h : RowBlk w p) : RowIn w p.1 p.2 :=
  RowIn.of_block h (by rw [List.toList_toArray, ← vcells_length, List.take_length])

/-- A list of rows that the call owns. -/
structure RowsAt (w : World) (base : Nat) (v : Value) (L : List (Nat × List (Int × ByteArray))) : Prop where
  own : w.ownsRow base 25 1 v L.length (L.map rval)
  blk : ∀ p ∈ L, base ≤ p.1 ∧ RowBlk w p

theorem RowsAt.keep {w w' : World} {base : Nat} {v : Value} {L : List (Nat × List (Int × ByteArray))} (h : RowsAt w base v L) 
    (hb : ∀ k t, base ≤ k → k < w.heap.size → (∃ cs fr, w.heap[k]? = some (.cells cs t fr)) → (t = 25 → v.ownBlock = some k) → (t = 25 ∨ t = 30) → w'.heap[k]? = w.heap[k]?) : RowsAt w' base v L := by
  refine ⟨⟨h.own.1, ?_⟩, fun p hp => ?_⟩
  · rcases h.own.2 with h1 | ⟨g, cap, cur, hv, hg, hh, rest⟩
    · exact .inl h1
    · refine .inr ⟨g, cap, cur, hv, hg, ?_, rest⟩
      rw [hb g 25 hg (Array.getElem?_eq_some_iff.1 hh).1 ⟨_, _, hh⟩ (fun _ => by rw [hv]; rfl) (.inl rfl)]
      exact hh
  · obtain ⟨h1, h2⟩ := h.blk p hp
    refine ⟨h1, ?_⟩
    unfold RowBlk at h2 ⊢
    rw [hb p.1 30 h1 (Array.getElem?_eq_some_iff.1 h2).1 ⟨_, _, h2⟩ (fun e => by cases e) (.inr rfl)]
    exact h2

structure StoreAt (w : World) (base bs : Nat) (ks : List Int) (L : List (Nat × List (Int × ByteArray))) (sv fv : Value) : Prop where
  blk : w.heap[bs]? = some (.cells #[sv, fv] 96 (0, 0))
  lo : base ≤ bs
  sch : w.ownsRow base 3 1 sv ks.length (ks.map (Value.int .i64))
  rows : RowsAt w base fv L

theorem StoreAt.kinds {w : World} {base bs : Nat} {ks : List Int} {L : List (Nat × List (Int × ByteArray))} {sv fv : Value} (h : StoreAt w base bs ks L sv fv) (hk : 0 < ks.length) :
    ∃ sc scap, sv = .slice (some ⟨sc, 0, none⟩) ks.length scap ∧ KindsIn w sc ks ∧ base ≤ sc ∧ (∃ cs, w.heap[sc]? = some (.cells cs 3 (0, 0))) := by
  rcases h.sch.2 with ⟨_, h0⟩ | ⟨g, cap, cur, hv, hg, hh, h1, h2, h3, h4⟩
  · omega
  · refine ⟨g, cap, hv, fun i hi => ?_, hg, _, hh⟩
    have := h.sch.cells (g := g) (by rw [hv]; rfl) i (.int .i64 ks[i]) (by simp [hi])
    have hadd : (⟨g, 0, none⟩ : Addr).add i = ⟨g, i, none⟩ := by unfold Addr.add; split <;> simp_all
    rw [hadd] at this
    exact this

theorem grownBy_below {w w' : World} (h : Below w.heap.size w w') : w.grownBy w' none := ⟨h.os, h.tape, h.output, h.size, fun k hk _ => h.block k hk⟩
theorem ownsRow_below {w w' : World} {base : Nat} {e : TypeId} {size : Nat} {v : Value} {n : Nat} {xs : List Value} (h : w.ownsRow base e size v n xs) (hb : Below w.heap.size w w') : w'.ownsRow base e size v n xs :=
  h.kept (grownBy_below hb) (by cases v.ownBlock <;> simp)
theorem ownsRow_drew {w : World} {base : Nat} {e : TypeId} {size : Nat} {v : Value} {n : Nat} {xs : List Value} (h : w.ownsRow base e size v n xs) : w.drew.ownsRow base e size v n xs := h

theorem info_row : (Tryd.prog.info? 25).map (fun i => (i.zero, i.size, i.bytes)) = some (some (.slice none 0 0), 1, 24) := by kernel_rfl

theorem append_close {base bs : Nat} {ks : List Int} {L : List (Nat × List (Int × ByteArray))} {sv : Value} {fa : Option Addr} {n fc : Nat} {r : List (Int × ByteArray)} {w w1 w2 w3 : World} {o : Obj} {gg cp : Nat}
    (h : StoreAt w base bs ks L sv (.slice fa n fc)) (hn : L.length = n) (hbase : base ≤ w.heap.size) (hb1 : Below w.heap.size w w1)
    (hblk : w2.heap[w1.heap.size]? = some (.cells (vcells r).toArray 30 (0, 0))) (hb2 : Below w1.heap.size w1.drew w2)
    (hown : w3.ownsRow base 25 1 (.slice (some ⟨gg, 0, none⟩) (n + 1) cp) (n + 1) (L.map rval ++ [.slice (some ⟨w1.heap.size, 0, none⟩) r.length r.length]))
    (hgrow : (w2.alloc o).grownBy w3 (Value.slice fa n fc).ownBlock) (hat : (Value.slice fa n fc).ownBlock = some gg ∨ gg = w2.heap.size + 1) :
    ∃ fv' g', StoreAt (w3.setCell ⟨bs, 1, none⟩ (.slice (some ⟨gg, 0, none⟩) (n + 1) cp)) base bs ks (L ++ [(g', r)]) sv fv' ∧ w.heap.size ≤ g' ∧
      Fr (bs :: (Value.slice fa n fc).ownBlock.toList) w (w3.setCell ⟨bs, 1, none⟩ (.slice (some ⟨gg, 0, none⟩) (n + 1) cp)) ∧ (fv'.ownBlock = (Value.slice fa n fc).ownBlock ∨ ∃ k, fv'.ownBlock = some k ∧ w.heap.size ≤ k) := by
  have s1 := hb1.size
  have s2 : w1.heap.size ≤ w2.heap.size := hb2.size
  have hb2' : Below w1.heap.size w1 w2 := ⟨hb2.os, hb2.tape, hb2.output, hb2.size, hb2.block⟩
  have hbs : bs < w.heap.size := (Array.getElem?_eq_some_iff.1 h.blk).1
  -- the frame up to w3
  have hF : Fr (Value.slice fa n fc).ownBlock.toList w w3 := by
    refine ((Fr.of_below (S := (Value.slice fa n fc).ownBlock.toList) hb1).then hb2').alloc o |>.grown hgrow (fun k hk => ?_)
    left; rw [hk]; simp
  have hnb : bs ∉ (Value.slice fa n fc).ownBlock.toList := by
    intro hm
    have e : (Value.slice fa n fc).ownBlock = some bs := by simpa using hm
    rcases h.rows.own.2 with ⟨h1, _⟩ | ⟨gg, cp, cur, h1, _, h2, _⟩
    · rw [h1] at e; cases e
    · rw [h1] at e
      simp only [Value.ownBlock, Option.some.injEq] at e
      rw [e, h.blk] at h2
      simp at h2
  have hgb : gg ≠ bs := by
    rintro rfl
    rcases hat with h1 | h1
    · exact hnb (by rw [h1]; simp)
    · have : w2.heap.size + 1 < w.heap.size := by omega
      omega
  have hb3 : w3.heap[bs]? = some (.cells #[sv, .slice fa n fc] 96 (0, 0)) := (hF.block bs hbs hnb).trans h.blk
  refine ⟨.slice (some ⟨gg, 0, none⟩) (n + 1) cp, w1.heap.size, ⟨?_, h.lo, ?_, ?_⟩, s1, (hF.mono (T := bs :: (Value.slice fa n fc).ownBlock.toList) (fun i hi => List.mem_cons_of_mem _ hi)).setCell (p := ⟨bs, 1, none⟩) (.inl (List.mem_cons_self (a := bs))) _, ?_⟩
  · exact heap_setCell_same _ _ _ _ _ _ hb3
  · -- the schema
    refine World.ownsRow.kept (w := w3) ?_ (row := some bs) ⟨rfl, rfl, rfl, by simp [World.setCell], fun k hk hne => heap_setCell_other _ _ _ _ (fun e => hne (by rw [e]))⟩ ?_
    · refine ⟨h.sch.1, ?_⟩
      rcases h.sch.2 with h1 | ⟨g, cap, cur, hv, hg, hh, rest⟩
      · exact .inl h1
      · refine .inr ⟨g, cap, cur, hv, hg, ?_, rest⟩
        rw [hF.block g (Array.getElem?_eq_some_iff.1 hh).1 ?_]
        · exact hh
        · intro hm
          have e : (Value.slice fa n fc).ownBlock = some g := by simpa using hm
          rcases h.rows.own.2 with ⟨h1, _⟩ | ⟨gg, cp, cur, h1, _, h2, _⟩
          · rw [h1] at e; cases e
          · rw [h1] at e
            simp only [Value.ownBlock, Option.some.injEq] at e
            rw [e, hh] at h2
            simp at h2
    · rcases h.sch.2 with ⟨h1, _⟩ | ⟨g, cap, cur, hv, hg, hh, rest⟩
      · left; rw [h1]; rfl
      · right; rw [hv]; simp only [Value.ownBlock]; intro e
        simp only [Option.some.injEq] at e
        rw [e, h.blk] at hh
        simp at hh
  · -- the rows
    refine ⟨?_, ?_⟩
    · have : (L ++ [(w1.heap.size, r)]).length = n + 1 := by simp [hn]
      rw [this, List.map_append]
      refine World.ownsRow.kept (w := w3) hown (row := some bs) ⟨rfl, rfl, rfl, by simp [World.setCell], fun k hk hne => heap_setCell_other _ _ _ _ (fun e => hne (by rw [e]))⟩ (.inr ?_)
      simp only [Value.ownBlock]; intro e; simp only [Option.some.injEq] at e; exact hgb e
    · intro p hp
      rcases List.mem_append.1 hp with hp | hp
      · obtain ⟨h1, h2⟩ := h.rows.blk p hp
        refine ⟨h1, ?_⟩
        unfold RowBlk at h2 ⊢
        have hlt : p.1 < w.heap.size := (Array.getElem?_eq_some_iff.1 h2).1
        have hne : p.1 ≠ bs := by intro e; rw [e, h.blk] at h2; simp at h2
        rw [heap_setCell_other _ _ _ _ hne, hF.block p.1 hlt ?_]
        · exact h2
        · intro hm
          have e : (Value.slice fa n fc).ownBlock = some p.1 := by simpa using hm
          rcases h.rows.own.2 with ⟨h1, _⟩ | ⟨gg, cp, cur, h1, _, h3, _⟩
          · rw [h1] at e; cases e
          · rw [h1] at e
            simp only [Value.ownBlock, Option.some.injEq] at e
            rw [e, h2] at h3
            simp at h3
      · have e : p = (w1.heap.size, r) := by simpa using hp
        subst e
        refine ⟨by simp; omega, ?_⟩
        unfold RowBlk
        have hne : w1.heap.size ≠ bs := by omega
        rw [heap_setCell_other _ _ _ _ hne]
        have hz2 : w1.heap.size < w2.heap.size := (Array.getElem?_eq_some_iff.1 hblk).1
        rw [hgrow.block w1.heap.size (by simp; omega) ?_, Below.heap_alloc _ _ _ hz2]
        · exact hblk
        · intro e
          rcases h.rows.own.lt w1.heap.size e.symm with ⟨_, h2⟩
          omega
  · simp only [Value.ownBlock] at hat ⊢
    rcases hat with h1 | h1
    · left; rw [h1]
    · right; exact ⟨gg, rfl, by omega⟩

set_option maxRecDepth 100000 in
set_option maxHeartbeats 1000000 in
theorem storeAppend_ok (base bs : Nat) (ks : List Int) (L : List (Nat × List (Int × ByteArray))) (sv fv : Value) (r : List (Int × ByteArray)) (g cap : Nat) (w : World) (h : StoreAt w base bs ks L sv fv) (hbase : base ≤ w.heap.size)
    (hL : L.length < 1000) (hin : RowIn w g r) (hk : 0 < ks.length) (hr : r.length ≤ 1000) (hfit : FitsRow ks r) (hs : ∀ p ∈ r, p.2.size ≤ 1000000) :
    Calls Tryd.prog 44 #[.pointer (some ⟨bs, 0, none⟩), .slice (some ⟨g, 0, none⟩) r.length cap] w fun e w' => e = .returned .nilIface ∧
      ∃ fv' g', StoreAt w' base bs ks (L ++ [(g', r)]) sv fv' ∧ w.heap.size ≤ g' ∧ Fr (bs :: fv.ownBlock.toList) w w' ∧ (fv'.ownBlock = fv.ownBlock ∨ ∃ k, fv'.ownBlock = some k ∧ w.heap.size ≤ k) := by
  obtain ⟨i0, hi0, hz0, hz1, hz2⟩ := info_parts info_row
  obtain ⟨sc, scap, rfl, hkin, hsc, scs, hscs⟩ := h.kinds hk
  have hbs : bs < w.heap.size := (Array.getElem?_eq_some_iff.1 h.blk).1
  have c0 : w.cell? ⟨bs, 0, none⟩ = some (.slice (some ⟨sc, 0, none⟩) ks.length scap) := by rw [cell_of_row _ _ _ _ _ _ h.blk]; rfl
  have c1 : w.cell? ⟨bs, 1, none⟩ = some fv := by rw [cell_of_row _ _ _ _ _ _ h.blk]; rfl
  have hg : g < w.heap.size := hin.lt (by have := hfit.1; omega)
  have hown := h.rows.own
  have hmap : (L.map rval).length = L.length := by simp
  have hnb : some bs ≠ fv.ownBlock := fun e => by
    rcases hown.2 with ⟨h1, _⟩ | ⟨gg, cp, cur, h1, _, h2, _⟩
    · rw [h1] at e; cases e
    · rw [h1] at e
      simp only [Value.ownBlock, Option.some.injEq] at e
      rw [← e, h.blk] at h2
      simp at h2
  obtain ⟨fa, fc, hfe⟩ : ∃ a cp, fv = .slice a L.length cp := by
    rcases hown.2 with ⟨h1, h2⟩ | ⟨gg, cp, _, h1, _⟩
    · exact ⟨none, 0, by rw [h1, h2]⟩
    · exact ⟨_, cp, h1⟩
  have f1 : w.frozen? ⟨bs, 1, none⟩ = false := by simp [World.frozen?, h.blk]
  have HS : Hid (StoreAt w base bs ks L (.slice (some ⟨sc, 0, none⟩) ks.length scap) fv) := h
  have HO : Hid (w.ownsRow base 25 1 fv L.length (L.map rval)) := hown
  have hge : ¬ ((1000 : Int) ≤ (L.length : Int)) := by omega
  clear h hown
  generalize hxs : L.map rval = xs at HO hmap
  have HX : Hid (L.map rval = xs) := hxs
  clear hxs
  generalize hn : L.length = n at *
  have HN : Hid (L.length = n) := hn
  clear hn
  subst hfe
  go_enter Tryd.func44, Tryd.ntmps44
  go_wp2_with fail
  refine (check_ok bs sc scap ks r g cap w c0 hkin hin hr hfit).mono ?_
  rintro e w1 ⟨rfl, hb1⟩
  have k1 : w1.cell? ⟨bs, 1, none⟩ = some (.slice fa n fc) := (hb1.cell (p := ⟨bs, 1, none⟩) hbs).trans c1
  have hz1' := hb1.size
  go_wp2_with fail
  go_region_law (first
    | (go_simp; go_at_call 47; refine (apart_any r g cap _ (hin.keep (by exact hb1.block g hg)) hr hs).mono ?_; rintro e w2 ⟨rfl, hblk, hb2⟩; dsimp only
       have k2 : w2.cell? ⟨bs, 1, none⟩ = some (.slice fa n fc) := (hb2.cell (p := ⟨bs, 1, none⟩) (by simp; omega)).trans k1
       have k3 : ∀ o, (w2.alloc o).cell? ⟨bs, 1, none⟩ = some (.slice fa n fc) := fun o => (cell_alloc w2 o bs 1 (by have := hb2.size; simp at this; omega)).trans k2)
    | (refine step_append_lies _ (by rfl) _ _ _ (by rfl) base 25 i0 _ 1 24 Tryd.underlying39 hi0 hz0 hz1 hz2 rfl (by omega) (.slice fa n fc) n xs (by rfl) ((ownsRow_below (ownsRow_below HO.out hb1.drew) hb2).alloc _)
        ⟨w2.heap.size, 0, none⟩ 1 1 [.slice (some ⟨w1.heap.size, 0, none⟩) r.length r.length] (by rfl) (by rfl) (World.news_of_block (cs := #[.slice (some ⟨w1.heap.size, 0, none⟩) r.length r.length]) (t := 25) (fr := (0, 0)) (heap_alloc_new w2 _)) (by simp [Value.oneCell'])
        (by omega) (by unfold maxLen; omega) (by omega) (by have := hb2.size; simp at this; simp; omega) (w2.heap.size + 1) (by simp) ?_; intro gg cp w3 hown3 hgrow hat hlt
       have q1 : w3.cell? ⟨bs, 1, none⟩ = some (.slice fa n fc) := (hgrow.cell_far ⟨bs, 1, none⟩ (by have := hb2.size; simp at this; simp; omega) hnb).trans (k3 _)
       have q2 : w3.frozen? ⟨bs, 1, none⟩ = false := (hgrow.frozen_far ⟨bs, 1, none⟩ (by have := hb2.size; simp at this; simp; omega) hnb).trans ((frozen_alloc w2 _ bs 1 (by have := hb2.size; simp at this; omega)).trans ((hb2.frozen (p := ⟨bs, 1, none⟩) (by simp; omega)).trans ((hb1.frozen (p := ⟨bs, 1, none⟩) hbs).trans f1)))))
  all_goals (clear k1 k2 k3 q1 q2; go_wp2; go_ret)
  all_goals exact ⟨rfl, append_close HS.out HN.out hbase hb1 hblk hb2 (by rw [HX.out]; exact hown3) hgrow hat⟩

end Go.Proofs.YtcconhgbefhdeaaDoor
