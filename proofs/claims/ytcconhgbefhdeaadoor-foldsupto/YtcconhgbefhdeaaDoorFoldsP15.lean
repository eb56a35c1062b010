import Derived.Test.YtcconhgbefhdeaaDoorFoldsP05
import Derived.ArgAppend
import Derived.Lib.SliceRun
import Derived.Test.YtcconhgbefhdeaaDoorFoldsP11
namespace Go.Proofs.YtcconhgbefhdeaaDoor
open Go.RowKit

/-- One thing appended where there is room for it: it is put there, and nothing else turns. -/
theorem wpList_append_put {P : Program} (w : World) {ops : Array Oper} {rest : List Oper} {o : Oper} {a : Act} {Q : Exit → Act → World → Prop}
    (hg : o.guard = none) (s x : Operand) (t : TypeId) (hop : o.op = Op.call { callee := Callee.builtin Builtin.append, args := #[s, x], argTypes := #[t, t] })
    (e : TypeId) (i : TypeInfo) (z : Value) (bytes : Nat) (h1 : P.underlying t = some (.slice e)) (h2 : P.info? e = some i) (h3 : i.zero = some z) (h4 : i.size = 1) (h5 : i.bytes = bytes) (h6 : z.cells.size = 1)
    (b n cap : Nat) (cur : Array Value) (hs : a.eval s = .slice (some ⟨b, 0, none⟩) n cap) (hblk : w.heap[b]? = some (.cells cur e (0, 0))) (hcs : cur.size = cap)
    (ad : Addr) (u : Value) (hx : a.eval x = .slice (some ad) 1 1) (hc : ∀ j v, [u][j]? = some v → w.cell? (ad.add j) = some v) (h1c : u.oneCell' = true) (hr : n + 1 ≤ cap) (b1 : n + 1 ≤ maxLen) (b2 : (n + 1) * bytes ≤ 140737488355328)
    (hK : wpList P ops Q rest (a.put o.dst (.slice (some ⟨b, 0, none⟩) (n + 1) cap)) (w.setCell ⟨b, n, none⟩ u)) :
    wpList P ops Q (o :: rest) a w := by
  refine wpList_append_arg w hg s x t hop e i z 1 bytes h1 h2 h3 h4 h5 h6 (by omega) b 0 n cap (cur.toList.take n) hs (by simp; omega) (fun j v hj => ?_) ad 1 1 [u] hx (by simp) hc (by simpa using h1c) (fun _ j hj => ?_) b1 b2 (fun _ => ?_) (fun hn => by omega)
  · rw [cell_of_row _ _ _ _ _ _ hblk]
    have hl := (List.getElem?_eq_some_iff.1 hj).1
    simp at hl
    rw [List.getElem?_take, if_pos (by omega)] at hj
    simpa using hj
  · have hj0 : j = 0 := by simpa using hj
    subst hj0
    constructor
    · rw [cell_of_row _ _ _ _ _ _ hblk, Array.getElem?_eq_getElem (by omega)]; rfl
    · simp [World.frozen?, hblk]
  · have : (0 + n * 1) = n := by omega
    rw [this]
    exact hK

theorem clear_zero (a : Option Addr) (c : Nat) (w : World) : (Builtin.clear_ #[39] 0 #[.slice a 0 c]).run Tryd.prog w = .ok (.tuple #[]) w := by
  cases a <;> simp [Builtin.clear_, run_underlying Tryd.underlying39]

theorem clear_some (b o n c : Nat) (hn : 0 < n) (cur : Array Value) (w : World) (hb : w.heap[b]? = some (.cells cur 25 (0, 0))) (hc : o + n ≤ cur.size) :
    (Builtin.clear_ #[39] 0 #[.slice (some ⟨b, o, none⟩) n c]).run Tryd.prog w = .ok (.tuple #[]) (w.setCells b o (List.replicate n (.slice none 0 0))) :=
  Lib.run_clear_slice w _ _ 0 _ Tryd.underlying39 Tryd.zeroValue25 rfl rfl b o n c hn
    (fun j hj => by rw [cell_of_row _ _ _ _ _ _ hb, Array.getElem?_eq_getElem (by omega)]; rfl) (fun j hj => by simp [World.frozen?, hb])

theorem TestsAt.keepBut {w w' : World} {ta : Option Addr} {T : List Tst} (h : TestsAt w ta T) (hb : ∀ g n, w.cell? ⟨g, 0, none⟩ = some (.int .i64 n) → w'.heap[g]? = w.heap[g]?) : TestsAt w' ta T := by
  rcases h with h | ⟨g, h1, h2⟩
  · exact .inl h
  · by_cases h0 : 0 < T.length
    · exact .inr ⟨g, h1, h2.keep (hb g _ (h2 0 h0).1)⟩
    · exact .inl (List.eq_nil_of_length_eq_zero (by omega))

theorem filter_not (ks : List Int) (T : List Tst) (L : List (Nat × List (Int × ByteArray))) (k : Nat) (h : k < L.length) :
    (L.take (k + 1)).filter (fun p => !passB ks p.2 T) = (L.take k).filter (fun p => !passB ks p.2 T) ++ (if passB ks L[k].2 T then [] else [L[k]]) := by
  rw [List.take_succ_eq_append_getElem h, List.filter_append]
  congr 1
  cases hp : passB ks L[k].2 T <;> simp [hp]

theorem Fr.cellsSet {S : List Nat} {a w : World} (h : Fr S a w) {g : Nat} (hg : g ∈ S) (vs : List Value) (o : Nat) : Fr S a (w.setCells g o vs) := by
  induction vs generalizing w o with
  | nil => exact h
  | cons v vs ih => exact ih (h.setCell (p := ⟨g, o, none⟩) (.inl hg) v) (o + 1)

theorem heap_setCells_other (w : World) (b o : Nat) (vs : List Value) (k : Nat) (h : ¬ k = b) : (w.setCells b o vs).heap[k]? = w.heap[k]? := by
  induction vs generalizing w o with
  | nil => rfl
  | cons v vs ih => exact (ih (w.setCell ⟨b, o, none⟩ v) (o + 1)).trans (heap_setCell_other _ _ _ _ h)

theorem heap_setCells_same (w : World) (b o : Nat) (vs : List Value) (cur : Array Value) (t : TypeId) (hb : w.heap[b]? = some (.cells cur t (0, 0))) :
    ∃ cur' : Array Value, (w.setCells b o vs).heap[b]? = some (.cells cur' t (0, 0)) ∧ cur'.size = cur.size ∧ cur'.toList.take o = cur.toList.take o := by
  induction vs generalizing w o cur with
  | nil => exact ⟨cur, hb, rfl, rfl⟩
  | cons v vs ih =>
    obtain ⟨cur', h1, h2, h3⟩ := ih (w.setCell ⟨b, o, none⟩ v) (o + 1) (cur.setIfInBounds o v) (heap_setCell_same _ _ _ _ _ _ hb)
    refine ⟨cur', h1, by simpa using h2, ?_⟩
    have h4 := congrArg (fun l => l.take o) h3
    simp only [List.take_take, Array.toList_setIfInBounds] at h4
    rw [show min o (o + 1) = o by omega, List.take_set_of_le (Nat.le_refl o)] at h4
    exact h4

theorem filter_both (f : (Nat × List (Int × ByteArray)) → Bool) (L : List (Nat × List (Int × ByteArray))) : (L.filter f).length + (L.filter (fun p => !f p)).length = L.length := by
  induction L with
  | nil => rfl
  | cons a L ih => cases h : f a <;> simp [h] <;> omega

theorem StoreAt.shrunk {w w' : World} {base bs : Nat} {ks : List Int} {L : List (Nat × List (Int × ByteArray))} {sv : Value} {fg fc : Nat} (h : StoreAt w base bs ks L sv (.slice (some ⟨fg, 0, none⟩) L.length fc)) (K : List (Nat × List (Int × ByteArray))) (hK : ∀ p ∈ K, p ∈ L) (cur : Array Value)
    (h1 : w'.heap[bs]? = some (.cells #[sv, .slice (some ⟨fg, 0, none⟩) K.length fc] 96 (0, 0))) (h2 : w'.heap[fg]? = some (.cells cur 25 (0, 0))) (h3 : cur.size = fc) (h4 : cur.toList.take K.length = K.map rval) (h5 : K.length ≤ fc) (hm : fc ≤ maxLen) (hb : base ≤ fg)
    (hf : ∃ c0, w.heap[fg]? = some (.cells c0 25 (0, 0))) (hF : Fr [bs, fg] w w') : StoreAt w' base bs ks K sv (.slice (some ⟨fg, 0, none⟩) K.length fc) := by
  obtain ⟨c0, hf⟩ := hf
  refine ⟨h1, h.lo, own_keep h.sch (fun k hk e => hF.block k hk ?_), ⟨⟨by simp, .inr ⟨fg, fc, cur, rfl, hb, h2, h5, hm, by omega, by rw [Nat.mul_one]; exact h4⟩⟩, fun p hp => ?_⟩⟩
  · rcases h.sch.2 with ⟨h6, _⟩ | ⟨g, cap, cu, h6, _, h7, _⟩
    · rw [h6] at e; cases e
    · rw [h6] at e
      simp only [Value.ownBlock, Option.some.injEq] at e
      subst e
      intro hmem
      rcases List.mem_cons.1 hmem with e | e
      · rw [e, h.blk] at h7; simp at h7
      · rw [List.mem_singleton.1 e, hf] at h7; simp at h7
  · obtain ⟨h6, h7⟩ := h.rows.blk p (hK p hp)
    refine ⟨h6, ?_⟩
    have hlt := h7.lt
    unfold RowBlk at h7 ⊢
    rw [hF.block p.1 hlt ?_]
    · exact h7
    · intro hmem
      rcases List.mem_cons.1 hmem with e | e
      · rw [e, h.blk] at h7; simp at h7
      · rw [List.mem_singleton.1 e, hf] at h7; simp at h7

set_option maxRecDepth 100000 in
set_option maxHeartbeats 1000000 in
theorem storeDelete_ok (base bs : Nat) (ks : List Int) (L : List (Nat × List (Int × ByteArray))) (sv : Value) (fv : Value) (tcap : Nat) (ta : Option Addr) (T : List Tst) (w : World) (h : StoreAt w base bs ks L sv fv)
    (hL : L.length ≤ 1000) (hk : 0 < ks.length) (hrow : ∀ p ∈ L, p.2.length = ks.length) (hT : TestsAt w ta T) (hv : ValidT ks T) :
    Calls Tryd.prog 33 #[.pointer (some ⟨bs, 0, none⟩), .slice ta T.length tcap] w fun e w' => ∃ fv', e = .returned (.tuple #[.int .i64 (L.filter (fun p => passB ks p.2 T)).length, .nilIface]) ∧
      StoreAt w' base bs ks (L.filter (fun p => !passB ks p.2 T)) sv fv' ∧ fv'.ownBlock = fv.ownBlock ∧ Fr (bs :: fv.ownBlock.toList) w w' := by
  obtain ⟨i0, hi0, hz0, hz1, hz2⟩ := info_parts info_row
  obtain ⟨sc, scap, rfl, hkin, hsc0, scs, hscs⟩ := h.kinds hk
  have hsc : sc < w.heap.size := hkin.lt hk
  have hbs : bs < w.heap.size := (Array.getElem?_eq_some_iff.1 h.blk).1
  have c0 : w.cell? ⟨bs, 0, none⟩ = some (.slice (some ⟨sc, 0, none⟩) ks.length scap) := by rw [cell_of_row _ _ _ _ _ _ h.blk]; rfl
  have c1 : w.cell? ⟨bs, 1, none⟩ = some fv := by rw [cell_of_row _ _ _ _ _ _ h.blk]; rfl
  have HH : Hid (StoreAt w base bs ks L (.slice (some ⟨sc, 0, none⟩) ks.length scap) fv) := h
  have HK : Hid (KindsIn w sc ks) := hkin
  have HT : Hid (TestsAt w ta T) := hT
  have HV : Hid (ValidT ks T) := hv
  have HR : Hid (∀ p ∈ L, p.2.length = ks.length) := hrow
  have HSC : Hid (w.heap[sc]? = some (.cells scs 3 (0, 0))) := hscs
  clear h hkin hT hv hrow hscs
  rcases HH.out.rows.own.2 with ⟨hv, h0⟩ | ⟨fg, fc, cur, hv, hfb', hh, n1, n2, n3, n4⟩
  · subst hv
    go_enter Tryd.func33, Tryd.ntmps33
    go_wp2_with fail
    refine (sieveNew_ok sc scap tcap ta ks T w hk HK.out HT.out HV.out).mono ?_
    rintro e w1 ⟨rfl, hb1⟩
    have hs1 := hb1.size
    have k1 : w1.cell? ⟨bs, 1, none⟩ = some (.slice none 0 0) := (hb1.cell (p := ⟨bs, 1, none⟩) hbs).trans c1
    have k1' : ∀ o, (w1.alloc o).cell? ⟨bs, 1, none⟩ = some (.slice none 0 0) := fun o => (cell_alloc w1 o _ _ (by omega)).trans k1
    clear c0 c1 k1
    go_wp2_with fail
    go_loopw [8, 34] (fun kv i wr => kv = .slice none 0 0 ∧ i = .int .i64 0 ∧ wr = w1.alloc (.cells #[Value.slice (some ⟨sc, 0, none⟩) ks.length scap, Value.slice ta T.length tcap] 92)) (fun _ _ _ => 0)
    case atStart => exact ⟨rfl, rfl, rfl⟩
    case round =>
      obtain ⟨rfl, rfl, rfl⟩ := hrel
      have f1 : ∀ o, (w1.alloc o).frozen? ⟨bs, 1, none⟩ = false := fun o => (frozen_alloc w1 o _ _ (by omega)).trans ((hb1.frozen (p := ⟨bs, 1, none⟩) hbs).trans (by simp [World.frozen?, HH.out.blk]))
      have hcz := clear_zero
      go_wp2
      go_ret2
      have e0 : L = [] := List.eq_nil_of_length_eq_zero h0
      subst e0
      refine ⟨.slice none 0 0, rfl, ⟨?_, HH.out.lo, own_keep HH.out.sch (fun k hk e => ?_), ⟨World.ownsRow_nil _ _ _ _, by simp⟩⟩, rfl, ((Fr.of_below hb1).alloc _).setCell (p := ⟨bs, 1, none⟩) (.inl (by simp)) _⟩
      · exact heap_setCell_same _ _ _ _ _ _ ((Below.heap_alloc _ _ _ (by omega)).trans ((hb1.block _ hbs).trans HH.out.blk))
      · rw [heap_setCell_other _ _ _ _ ?_, Below.heap_alloc _ _ _ (by omega), hb1.block _ hk]
        intro e'
        simp only [Value.ownBlock, Option.some.injEq] at e
        have h1 := HSC.out
        rw [e, e', HH.out.blk] at h1
        simp at h1
  · subst hv
    go_enter Tryd.func33, Tryd.ntmps33
    go_wp2_with fail
    refine (sieveNew_ok sc scap tcap ta ks T w hk HK.out HT.out HV.out).mono ?_
    rintro e w1 ⟨rfl, hb1⟩
    have hs1 := hb1.size
    have k1 : w1.cell? ⟨bs, 1, none⟩ = some (.slice (some ⟨fg, 0, none⟩) L.length fc) := (hb1.cell (p := ⟨bs, 1, none⟩) hbs).trans c1
    have k1' : ∀ o, (w1.alloc o).cell? ⟨bs, 1, none⟩ = some (.slice (some ⟨fg, 0, none⟩) L.length fc) := fun o => (cell_alloc w1 o _ _ (by omega)).trans k1
    have hfg : fg < w.heap.size := (Array.getElem?_eq_some_iff.1 hh).1
    have hne : ¬ fg = bs := fun e => by rw [e, HH.out.blk] at hh; simp at hh
    have N4 : Hid (cur.toList.take (L.length * 1) = L.map rval) := n4
    have N3 : Hid (cur.size = fc * 1) := n3
    have HW : Hid (w.heap[fg]? = some (.cells cur 25 (0, 0))) := hh
    clear c0 c1 k1 n4 n3 hh
    go_wp2_with fail
    go_loopw [8, 34] (fun kv i wr => ∃ k : Nat, k ≤ L.length ∧ i = .int .i64 k ∧ ∃ cur' : Array Value, kv = .slice (some ⟨fg, 0, none⟩) ((L.take k).filter (fun p => !passB ks p.2 T)).length fc ∧ wr.heap[fg]? = some (.cells cur' 25 (0, 0)) ∧ cur'.size = fc ∧
      cur'.toList.take ((L.take k).filter (fun p => !passB ks p.2 T)).length = ((L.take k).filter (fun p => !passB ks p.2 T)).map rval ∧ (∀ j, k ≤ j → ∀ hj : j < L.length, cur'[j]? = some (rval L[j])) ∧ Fr [fg] w wr ∧ w1.heap.size < wr.heap.size ∧
      wr.heap[w1.heap.size]? = some (.cells #[Value.slice (some ⟨sc, 0, none⟩) ks.length scap, Value.slice ta T.length tcap] 92 (0, 0))) (fun _ i _ => L.length - (intOf i).toNat)
    case atStart =>
      refine ⟨0, Nat.zero_le _, rfl, cur, by simp, ?_, by have := N3.out; omega, by simp, fun j _ hj => ?_, (Fr.of_below hb1).alloc _, by simp, heap_alloc_new w1 _⟩
      · rw [Below.heap_alloc _ _ _ (by omega), hb1.block _ hfg]; exact HW.out
      · have := congrArg (fun l => l[j]?) N4.out
        simp only [List.getElem?_take, List.getElem?_map] at this
        rw [if_pos (by omega)] at this
        simpa [hj] using this
    case round =>
      obtain ⟨k, hk', rfl, cur', rfl, hcur, hsz', hpre, hpost, hF, hlt1, hbox⟩ := hrel
      have hFl : ((L.take k).filter (fun p => !passB ks p.2 T)).length ≤ k := Nat.le_trans (List.length_filter_le _ _) (by simp; omega)
      have HC : Hid (wr.heap[fg]? = some (.cells cur' 25 (0, 0))) := hcur
      have HS : Hid (cur'.size = fc) := hsz'
      have HP : Hid (cur'.toList.take ((L.take k).filter (fun p => !passB ks p.2 T)).length = ((L.take k).filter (fun p => !passB ks p.2 T)).map rval) := hpre
      have HQ : Hid (∀ j, k ≤ j → ∀ hj : j < L.length, cur'[j]? = some (rval L[j])) := hpost
      have HB : Hid (wr.heap[w1.heap.size]? = some (.cells #[Value.slice (some ⟨sc, 0, none⟩) ks.length scap, Value.slice ta T.length tcap] 92 (0, 0))) := hbox
      have kb : wr.cell? ⟨bs, 1, none⟩ = some (.slice (some ⟨fg, 0, none⟩) L.length fc) := by rw [hF.cell bs 1 hbs (by simp; omega), cell_of_row _ _ _ _ _ _ HH.out.blk]; rfl
      have hfgr : fg < wr.heap.size := (Array.getElem?_eq_some_iff.1 hcur).1
      clear hcur hsz' hpre hpost hbox
      by_cases hlt : k < L.length
      · have d1 : wr.cell? ⟨fg, k, none⟩ = some (.slice (some ⟨L[k].1, 0, none⟩) L[k].2.length L[k].2.length) := by rw [cell_of_row _ _ _ _ _ _ HC.out]; exact HQ.out k (Nat.le_refl _) hlt
        have b0 : wr.cell? ⟨w1.heap.size, 0, none⟩ = some (.slice (some ⟨sc, 0, none⟩) ks.length scap) := by rw [cell_of_row _ _ _ _ _ _ HB.out]; rfl
        have b1 : wr.cell? ⟨w1.heap.size, 1, none⟩ = some (.slice ta T.length tcap) := by rw [cell_of_row _ _ _ _ _ _ HB.out]; rfl
        obtain ⟨rlo, rblk⟩ := HH.out.rows.blk L[k] (List.getElem_mem hlt)
        have hrl : L[k].1 < w.heap.size := rblk.lt
        have hrne : ¬ L[k].1 = fg := fun e => by unfold RowBlk at rblk; rw [e, HW.out] at rblk; simp at rblk
        have RIN : Hid (RowIn wr L[k].1 L[k].2) := (rblk.rowIn).keep (hF.block _ hrl (by simpa using hrne))
        have RLEN : Hid (L[k].2.length = ks.length) := HR.out L[k] (List.getElem_mem hlt)
        have hscne : ¬ sc = fg := fun e => by have h1 := HSC.out; rw [e, HW.out] at h1; simp at h1
        have KS : Hid (KindsIn wr sc ks) := HK.out.keep (hF.block sc hsc (by simpa using hscne))
        have TS : Hid (TestsAt wr ta T) := HT.out.keepBut (fun g n hg => hF.block g (World.block_lt_of_cell? w ⟨g, 0, none⟩ hg) (by
          simp only [List.mem_singleton]
          intro e
          subst e
          have h0 : cur[0]? = some (rval L[0]) := by
            have := congrArg (fun l => l[0]?) N4.out
            simp only [List.getElem?_take, List.getElem?_map] at this
            rw [if_pos (by omega)] at this
            simpa [show 0 < L.length by omega] using this
          rw [cell_of_row _ _ _ _ _ _ HW.out, h0] at hg
          simp [rval] at hg))
        have HFS : Hid ((L.take (k + 1)).filter (fun p => !passB ks p.2 T) = (L.take k).filter (fun p => !passB ks p.2 T) ++ (if passB ks L[k].2 T then [] else [L[k]])) := filter_not ks T L k hlt
        clear rblk rlo
        cases hp : passB ks L[k].2 T
        · have HPB : Hid (passB ks L[k].2 T = false) := hp
          go_wp2_with fail
          refine (passes_ok sc scap tcap ta ks T L[k].1 L[k].2.length L[k].2 _ hk KS.out RIN.out RLEN.out TS.out HV.out).mono ?_
          rintro e w2 ⟨rfl, hb2⟩
          have hs2 := hb2.size
          clear d1 b0 b1 kb
          generalize hgn : ((L.take k).filter (fun p => !passB ks p.2 T)).length = n at *
          have HGN : Hid (((L.take k).filter (fun p => !passB ks p.2 T)).length = n) := hgn
          clear hgn
          go_wp2_with (at_builtin; refine wpList_append_put _ rfl _ _ _ rfl 25 i0 _ 24 Tryd.underlying39 hi0 hz0 hz1 hz2 rfl fg n fc cur' (by rfl) ((Below.heap_alloc _ _ _ (by omega)).trans ((hb2.block _ hfgr).trans HC.out)) HS.out ⟨w2.heap.size, 0, none⟩ (.slice (some ⟨L[k].1, 0, none⟩) L[k].2.length L[k].2.length) (by rfl) (World.news_of_block (cs := #[.slice (some ⟨L[k].1, 0, none⟩) L[k].2.length L[k].2.length]) (t := 25) (fr := (0, 0)) (heap_alloc_new w2 _)) (by simp [Value.oneCell']) (by omega) (by unfold maxLen; omega) (by omega) ?_)
          go_roundw
          case rel =>
            have hl : cur'.toList.length = fc := by rw [Array.length_toList]; exact HS.out
            refine ⟨k + 1, by omega, by go_num, cur'.setIfInBounds n (rval L[k]), ?_, heap_setCell_same _ _ _ _ _ _ ((Below.heap_alloc _ _ _ (by omega)).trans ((hb2.block _ hfgr).trans HC.out)), by simpa using HS.out, ?_, fun j hj hjl => ?_, ((hF.then hb2).alloc _).setCell (p := ⟨fg, n, none⟩) (.inl (by simp)) _, ?_, ?_⟩
            · rw [HFS.out, HPB.out, List.length_append, HGN.out]; rfl
            · rw [HFS.out, HPB.out, List.length_append, HGN.out, List.map_append, ← HP.out, Array.toList_setIfInBounds]
              exact take_set1 _ _ _ (by omega)
            · rw [Array.getElem?_setIfInBounds_ne (by omega)]
              exact HQ.out j (by omega) hjl
            · simp [World.setCell]; omega
            · have hne1 : ¬ w1.heap.size = fg := by omega
              rw [heap_setCell_other _ _ _ _ hne1, Below.heap_alloc _ _ _ (by omega), hb2.block _ hlt1]
              exact HB.out
          case measure => simp [intOf]; omega
        · have HPB : Hid (passB ks L[k].2 T = true) := hp
          go_wp2_with fail
          refine (passes_ok sc scap tcap ta ks T L[k].1 L[k].2.length L[k].2 _ hk KS.out RIN.out RLEN.out TS.out HV.out).mono ?_
          rintro e w2 ⟨rfl, hb2⟩
          have hs2 := hb2.size
          clear d1 b0 b1 kb
          go_wp2
          go_roundw
          case rel =>
            refine ⟨k + 1, by omega, by go_num, cur', ?_, (hb2.block _ hfgr).trans HC.out, HS.out, ?_, fun j hj hjl => HQ.out j (by omega) hjl, hF.then hb2, by omega, (hb2.block _ hlt1).trans HB.out⟩
            · rw [HFS.out, HPB.out]; simp
            · rw [HFS.out, HPB.out]; simpa using HP.out
          case measure => simp [intOf]; omega
      · have hke : k = L.length := by omega
        subst hke
        rw [List.take_length] at HP hFl ⊢
        generalize hgn : (L.filter (fun p => !passB ks p.2 T)).length = n at *
        have HGN : Hid ((L.filter (fun p => !passB ks p.2 T)).length = n) := hgn
        clear hgn
        by_cases hnl : n < L.length
        · have hcl := clear_some fg n (L.length - n) (fc - n) (by omega) cur' wr HC.out (by have := HS.out; omega)
          have hnf : ¬ fc = n := by omega
          obtain ⟨cur2, hc2, hz2', ht2⟩ := heap_setCells_same wr fg n (List.replicate (L.length - n) (.slice none 0 0)) cur' 25 HC.out
          have HC2 : Hid ((wr.setCells fg n (List.replicate (L.length - n) (.slice none 0 0))).heap[fg]? = some (.cells cur2 25 (0, 0)) ∧ cur2.size = cur'.size ∧ cur2.toList.take n = cur'.toList.take n) := ⟨hc2, hz2', ht2⟩
          have HFR : Hid (Fr [bs, fg] w (wr.setCells fg n (List.replicate (L.length - n) (.slice none 0 0)))) := (hF.mono (T := [bs, fg]) (fun i hi => List.mem_cons_of_mem _ hi)).cellsSet (by simp) _ _
          have hblk : (wr.setCells fg n (List.replicate (L.length - n) (.slice none 0 0))).heap[bs]? = some (.cells #[.slice (some ⟨sc, 0, none⟩) ks.length scap, .slice (some ⟨fg, 0, none⟩) L.length fc] 96 (0, 0)) := (heap_setCells_other _ _ _ _ _ (by omega)).trans ((hF.block bs hbs (by simp; omega)).trans HH.out.blk)
          have HBK : Hid ((wr.setCells fg n (List.replicate (L.length - n) (.slice none 0 0))).heap[bs]? = some (.cells #[.slice (some ⟨sc, 0, none⟩) ks.length scap, .slice (some ⟨fg, 0, none⟩) L.length fc] 96 (0, 0))) := hblk
          have kb2 : (wr.setCells fg n (List.replicate (L.length - n) (.slice none 0 0))).cell? ⟨bs, 1, none⟩ = some (.slice (some ⟨fg, 0, none⟩) L.length fc) := by rw [cell_of_row _ _ _ _ _ _ hblk]; rfl
          have fb2 : (wr.setCells fg n (List.replicate (L.length - n) (.slice none 0 0))).frozen? ⟨bs, 1, none⟩ = false := by simp [World.frozen?, hblk]
          clear hc2 hz2' ht2 hblk
          generalize wr.setCells fg n (List.replicate (L.length - n) (.slice none 0 0)) = W2 at *
          go_wp2
          go_ret2
          have hfb := filter_both (fun p => passB ks p.2 T) L
          have hgn := HGN.out
          refine ⟨.slice (some ⟨fg, 0, none⟩) n fc, ?_, ?_, rfl, ?_⟩
          · rw [show (L.filter (fun p => passB ks p.2 T)).length = L.length - n by omega]; rfl
          · have hsh := HH.out.shrunk (w' := W2.setCell ⟨bs, 1, none⟩ (.slice (some ⟨fg, 0, none⟩) n fc)) (L.filter (fun p => !passB ks p.2 T)) (fun p hp => (List.mem_filter.1 hp).1) cur2 (by rw [hgn]; exact heap_setCell_same _ _ _ _ _ _ HBK.out) ((heap_setCell_other _ _ _ _ hne).trans HC2.out.1) (by rw [HC2.out.2.1]; exact HS.out) (by rw [hgn, HC2.out.2.2]; exact HP.out) (by omega) n2 hfb' ⟨_, HW.out⟩ (HFR.out.setCell (p := ⟨bs, 1, none⟩) (.inl (by simp)) _)
            rw [hgn] at hsh
            exact hsh
          · exact HFR.out.setCell (p := ⟨bs, 1, none⟩) (.inl (by simp)) _
        · have hcz := clear_zero
          have hnl' : n = L.length := by omega
          subst hnl'
          have hblk : wr.heap[bs]? = some (.cells #[.slice (some ⟨sc, 0, none⟩) ks.length scap, .slice (some ⟨fg, 0, none⟩) L.length fc] 96 (0, 0)) := (hF.block bs hbs (by simp; omega)).trans HH.out.blk
          have HBK : Hid (wr.heap[bs]? = some (.cells #[.slice (some ⟨sc, 0, none⟩) ks.length scap, .slice (some ⟨fg, 0, none⟩) L.length fc] 96 (0, 0))) := hblk
          have fb2 : wr.frozen? ⟨bs, 1, none⟩ = false := by simp [World.frozen?, hblk]
          clear hblk
          by_cases hfc : L.length < fc
          · have hfn : ¬ fc = L.length := by omega
            go_wp2
            go_ret2
            have hfb := filter_both (fun p => passB ks p.2 T) L
            have hgn := HGN.out
            have HFR : Fr [bs, fg] w (wr.setCell ⟨bs, 1, none⟩ (.slice (some ⟨fg, 0, none⟩) L.length fc)) := (hF.mono (T := [bs, fg]) (fun i hi => List.mem_cons_of_mem _ hi)).setCell (p := ⟨bs, 1, none⟩) (.inl (by simp)) _
            refine ⟨.slice (some ⟨fg, 0, none⟩) L.length fc, ?_, ?_, rfl, HFR⟩
            · rw [show (L.filter (fun p => passB ks p.2 T)).length = 0 by omega]; rfl
            · have hsh := HH.out.shrunk (L.filter (fun p => !passB ks p.2 T)) (fun p hp => (List.mem_filter.1 hp).1) cur' (by rw [hgn]; exact heap_setCell_same _ _ _ _ _ _ HBK.out) ((heap_setCell_other _ _ _ _ hne).trans HC.out) HS.out (by rw [hgn]; exact HP.out) (by omega) n2 hfb' ⟨_, HW.out⟩ HFR
              rw [hgn] at hsh
              exact hsh
          · obtain rfl : fc = L.length := by omega
            go_wp2
            go_ret2
            have hfb := filter_both (fun p => passB ks p.2 T) L
            have hgn := HGN.out
            have HFR : Fr [bs, fg] w (wr.setCell ⟨bs, 1, none⟩ (.slice (some ⟨fg, 0, none⟩) L.length L.length)) := (hF.mono (T := [bs, fg]) (fun i hi => List.mem_cons_of_mem _ hi)).setCell (p := ⟨bs, 1, none⟩) (.inl (by simp)) _
            refine ⟨.slice (some ⟨fg, 0, none⟩) L.length L.length, ?_, ?_, rfl, HFR⟩
            · rw [show (L.filter (fun p => passB ks p.2 T)).length = 0 by omega]; rfl
            · have hsh := HH.out.shrunk (L.filter (fun p => !passB ks p.2 T)) (fun p hp => (List.mem_filter.1 hp).1) cur' (by rw [hgn]; exact heap_setCell_same _ _ _ _ _ _ HBK.out) ((heap_setCell_other _ _ _ _ hne).trans HC.out) HS.out (by rw [hgn]; exact HP.out) (by omega) n2 hfb' ⟨_, HW.out⟩ HFR
              rw [hgn] at hsh
              exact hsh

set_option maxHeartbeats 400000 in
theorem delete_ok (base bt bs : Nat) (ks : List Int) (L : List (Nat × List (Int × ByteArray))) (sv fv : Value) (tcap : Nat) (ta : Option Addr) (T : List Tst) (w : World) (h : TableAt w base bt bs ks L sv fv)
    (hL : L.length ≤ 1000) (hk : 0 < ks.length) (hrow : ∀ p ∈ L, p.2.length = ks.length) (hT : TestsAt w ta T) (hv : ValidT ks T) :
    Calls Tryd.prog 16 #[.pointer (some ⟨bt, 0, none⟩), .slice ta T.length tcap] w fun e w' => ∃ fv', e = .returned (.tuple #[.int .i64 (L.filter (fun p => passB ks p.2 T)).length, .nilIface]) ∧
      TableAt w' base bt bs ks (L.filter (fun p => !passB ks p.2 T)) sv fv' ∧ fv'.ownBlock = fv.ownBlock ∧ Fr (bs :: fv.ownBlock.toList) w w' := by
  have c0 : w.cell? ⟨bt, 0, none⟩ = some (.pointer (some ⟨bs, 0, none⟩)) := by rw [cell_of_row _ _ _ _ _ _ h.tab]; rfl
  have hbt : bt < w.heap.size := (Array.getElem?_eq_some_iff.1 h.tab).1
  go_enter Tryd.func16, Tryd.ntmps16
  go_wp2_with fail
  refine (storeDelete_ok base bs ks L sv fv tcap ta T w h.sto hL hk hrow hT hv).mono ?_
  rintro e w1 ⟨fv', rfl, hS, ho, hF⟩
  have HS : Hid (StoreAt w1 base bs ks (L.filter (fun p => !passB ks p.2 T)) sv fv') := hS
  clear hS c0
  go_wp2_with fail
  refine (faultIn_nil _).mono ?_
  rintro e w2 ⟨rfl, hb2⟩
  go_wp2
  go_ret2
  have hT1 : TableAt w1 base bt bs ks (L.filter (fun p => !passB ks p.2 T)) sv fv' := ⟨(hF.block bt hbt h.far).trans h.tab, h.lo, HS.out⟩
  exact ⟨fv', rfl, hT1.below hb2, ho, hF.then hb2⟩

end Go.Proofs.YtcconhgbefhdeaaDoor

namespace Go.Proofs.YtcconhgbefhdeaaDoor
open Go.RowKit

set_option maxRecDepth 100000 in
set_option maxHeartbeats 400000 in
theorem storeDelete_bad (base bs : Nat) (ks : List Int) (L : List (Nat × List (Int × ByteArray))) (sv fv : Value) (tcap : Nat) (ta : Option Addr) (T : List Tst) (w : World) (h : StoreAt w base bs ks L sv fv) (hk : 0 < ks.length) (hT : TestsAt w ta T) (hf : (testFault ks T).1 ≠ 0) :
    Calls Tryd.prog 33 #[.pointer (some ⟨bs, 0, none⟩), .slice ta T.length tcap] w fun e w' => ∃ eb, e = .returned (.tuple #[.int .i64 0, .iface 150 (.pointer (some ⟨eb, 0, none⟩))]) ∧ InnerErr w' (.iface 150 (.pointer (some ⟨eb, 0, none⟩))) 3 (testFault ks T).2 ∧ Below w.heap.size w w' := by
  obtain ⟨sc, scap, rfl, hkin, _, _, _⟩ := h.kinds hk
  have c0 : w.cell? ⟨bs, 0, none⟩ = some (.slice (some ⟨sc, 0, none⟩) ks.length scap) := by rw [cell_of_row _ _ _ _ _ _ h.blk]; rfl
  go_enter Tryd.func33, Tryd.ntmps33
  go_wp2_with fail
  refine (sieveNew_bad sc scap tcap ta ks T w hk hkin hT hf).mono ?_
  rintro e w1 ⟨eb, rfl, hin1, hb1⟩
  clear c0 hf
  go_wp2
  go_ret2
  exact ⟨eb, rfl, hin1.below ((Below.refl _ _).alloc (Nat.le_refl _) _), hb1.alloc hb1.size _⟩

set_option maxRecDepth 100000 in
set_option maxHeartbeats 400000 in
theorem delete_bad (base bt bs : Nat) (ks : List Int) (L : List (Nat × List (Int × ByteArray))) (sv fv : Value) (tcap : Nat) (ta : Option Addr) (T : List Tst) (w : World) (hgt : ErrType w) (h : TableAt w base bt bs ks L sv fv) (hk : 0 < ks.length) (hT : TestsAt w ta T) (hf : (testFault ks T).1 ≠ 0) :
    Calls Tryd.prog 16 #[.pointer (some ⟨bt, 0, none⟩), .slice ta T.length tcap] w fun e w' => ∃ fb, e = .returned (.tuple #[.int .i64 0, .iface 100 (.pointer (some ⟨fb, 0, none⟩))]) ∧ FaultAt w' (.iface 100 (.pointer (some ⟨fb, 0, none⟩))) 3 (testFault ks T).2 ∧ Below w.heap.size w w' := by
  have c0 : w.cell? ⟨bt, 0, none⟩ = some (.pointer (some ⟨bs, 0, none⟩)) := by rw [cell_of_row _ _ _ _ _ _ h.tab]; rfl
  go_enter Tryd.func16, Tryd.ntmps16
  go_wp2_with fail
  refine (storeDelete_bad base bs ks L sv fv tcap ta T w h.sto hk hT hf).mono ?_
  rintro e w1 ⟨eb, rfl, hin1, hb1⟩
  clear c0 hf
  go_wp2_with fail
  refine (faultIn_err _ _ _ _ (hgt.below hb1) hin1).mono ?_
  rintro e w2 ⟨fb, rfl, hfa, hb2⟩
  go_wp2
  go_ret2
  exact ⟨fb, rfl, hfa, hb1.trans (hb2.mono hb1.size)⟩

/-- P7: can that be made of that column? -/
def colOK (ks : List Int) (c how : Int) : Bool := decide (0 ≤ c ∧ c < ks.length ∧ 1 ≤ how ∧ how ≤ 3 ∧ (how = 1 → ks.getD c.toNat 0 = 1))

set_option maxRecDepth 100000 in
set_option maxHeartbeats 400000 in
theorem tallyNew_bad (sc scap : Nat) (ks : List Int) (c how : Int) (w : World) (hks : KindsIn w sc ks) (hb : colOK ks c how = false) :
    Calls Tryd.prog 50 #[.slice (some ⟨sc, 0, none⟩) ks.length scap, .int .i64 c, .int .i64 how] w fun e w' => ∃ eb, e = .returned (.tuple #[.pointer none, .iface 150 (.pointer (some ⟨eb, 0, none⟩))]) ∧ InnerErr w' (.iface 150 (.pointer (some ⟨eb, 0, none⟩))) 4 c ∧ Below w.heap.size w w' := by
  have hb' := of_decide_eq_false hb
  by_cases h1 : c < 0
  · clear hb hb' hks
    go_enter Tryd.func50, Tryd.ntmps50
    go_wp2_with (go_at_call 63; refine (refuse_any _ _ _ _).mono ?_; rintro e w1 ⟨eb, rfl, hin1, hb1⟩)
    go_ret2
    exact ⟨eb, rfl, hin1, hb1⟩
  · by_cases h2 : (ks.length : Int) ≤ c
    · clear hb hb' hks
      go_enter Tryd.func50, Tryd.ntmps50
      go_wp2_with (go_at_call 63; refine (refuse_any _ _ _ _).mono ?_; rintro e w1 ⟨eb, rfl, hin1, hb1⟩)
      go_ret2
      exact ⟨eb, rfl, hin1, hb1⟩
    · obtain ⟨n, rfl⟩ : ∃ n : Nat, c = n := ⟨c.toNat, by omega⟩
      have hn : n < ks.length := by omega
      have k1 := hks n hn
      have e1 : ks.getD (n : Int).toNat 0 = ks[n] := by simp [List.getD, hn]
      rw [e1] at hb'
      by_cases hh : how = 1
      · subst hh
        have hne : ¬ ks[n] = 1 := fun e => hb' ⟨by omega, by omega, by omega, by omega, fun _ => e⟩
        have hc0 : (0 : Int) ≤ (n : Int) := by omega
        have hc1 : (n : Int) < (ks.length : Int) := by omega
        have hne' : (ks[n] != 1) = true := by rw [bne_iff_ne]; exact hne
        clear hb hb' hks e1
        generalize ks[n] = kd at *
        go_enter Tryd.func50, Tryd.ntmps50
        go_wp2_with (go_at_call 63; refine (refuse_any _ _ _ _).mono ?_; rintro e w1 ⟨eb, rfl, hin1, hb1⟩)
        go_ret2
        exact ⟨eb, rfl, hin1, hb1⟩
      · have hh2 : ¬ how = 2 := fun e => hb' ⟨by omega, by omega, by omega, by omega, fun h => absurd h hh⟩
        have hh3 : ¬ how = 3 := fun e => hb' ⟨by omega, by omega, by omega, by omega, fun h => absurd h hh⟩
        have hq1 : (how == 1) = false := by rw [beq_eq_false_iff_ne]; exact hh
        have hq2 : (how == 2) = false := by rw [beq_eq_false_iff_ne]; exact hh2
        have hq3 : (how == 3) = false := by rw [beq_eq_false_iff_ne]; exact hh3
        clear hb hb' hks e1 k1
        go_enter Tryd.func50, Tryd.ntmps50
        go_wp2_with (go_at_call 63; refine (refuse_any _ _ _ _).mono ?_; rintro e w1 ⟨eb, rfl, hin1, hb1⟩)
        go_ret2
        exact ⟨eb, rfl, hin1, hb1⟩

end Go.Proofs.YtcconhgbefhdeaaDoor
