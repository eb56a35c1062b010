import Derived.Test.YtcconhgbefhdeaaDoorMade
import Derived.Test.YtcconhgbefhdeaaDoorAgree
namespace Go.Proofs.YtcconhgbefhdeaaDoor
open Go.RowKit
attribute [local go_sem ↓] Go.wp_at_zero Go.wp_at_succ

theorem rows_push_old {w w' : World} {base : Nat} {v nv : Value} {W : List (Nat × List (Int × ByteArray))} {p : Nat × List (Int × ByteArray)} {o : Obj} (h : RowsAt w base v W) (hp : base ≤ p.1 ∧ RowBlk w p)
    (hown : w'.ownsRow base 25 1 nv (W.length + 1) (W.map rval ++ [rval p])) (hgrow : (w.alloc o).grownBy w' v.ownBlock) : RowsAt w' base nv (W ++ [p]) := by
  have key : ∀ q, RowBlk w q → RowBlk w' q := fun q hq => by
    have hlt := hq.lt
    unfold RowBlk at hq ⊢
    rw [hgrow.block q.1 (by simp; omega) ?_, Below.heap_alloc _ _ _ hlt]
    · exact hq
    · intro e
      obtain ⟨cur, hc⟩ := own_typed h.own e.symm
      exact absurd (types_apart hc hq) (by decide)
  refine ⟨?_, fun q hq => ?_⟩
  · rw [List.length_append, List.map_append]; exact hown
  · rcases List.mem_append.1 hq with hq | hq
    · exact ⟨(h.blk q hq).1, key q (h.blk q hq).2⟩
    · have e : q = p := by simpa using hq
      subst e
      exact ⟨hp.1, key q hp.2⟩

theorem tests_one (w : World) (d c n : Int) (s : ByteArray) : TestsIn (w.alloc (.cells #[.int .i64 d, .int .i64 c, .int .i64 n, .string s] 32)) w.heap.size [⟨d, c, n, s⟩] := fun i hi => by
  have hb := heap_alloc_new w (.cells #[.int .i64 d, .int .i64 c, .int .i64 n, .string s] 32)
  rw [cell_of_row _ _ _ _ _ _ hb, cell_of_row _ _ _ _ _ _ hb, cell_of_row _ _ _ _ _ _ hb, cell_of_row _ _ _ _ _ _ hb]
  match i, hi with
  | 0, _ => exact ⟨rfl, rfl, rfl, rfl⟩

theorem valid_one (ks : List Int) (d n : Int) (c : Nat) (s : ByteArray) (hd : 1 ≤ d ∧ d ≤ 6) (hc : c < ks.length) (hf : fitsB ks[c] n s = true) : ValidT ks [⟨d, c, n, s⟩] := by
  refine ⟨fun i h => ?_, .inr ?_, by simp⟩
  · match i, h with
    | 0, _ => exact .inl ⟨by simp; omega, c, rfl, hc, hf⟩
  · simp only [cntI, takesI]
    rw [if_neg (by omega), if_neg (by omega)]; rfl

theorem passB_one (ks : List Int) (r : List (Int × ByteArray)) (d n : Int) (c : Nat) (s : ByteArray) (hd : 1 ≤ d ∧ d ≤ 6) (hc : c < ks.length) (hr : c < r.length) : passB ks r [⟨d, c, n, s⟩] = holdsB ks[c] d r[c].1 r[c].2 n s := by
  simp only [passB, runR, stepR]
  rw [if_neg (by omega), if_neg (by omega), if_neg (by omega)]
  simp [List.getD, hc, hr]

theorem row_in64 (x : Raw) (h : x.ok) (c : Nat) (hc : c < x.row.length) : in64 x.row[c].1 := by
  have h4 : c < 4 := by rw [(raw_fits x).2.2] at hc; exact hc
  match c, h4 with
  | 0, _ => exact h.1
  | 1, _ => exact h.2.1
  | 2, _ => exact (by show in64 0; unfold in64; omega)
  | 3, _ =>
    show in64 (pickI x.flag 2)
    unfold in64
    rcases pick2 x.flag with e | e <;> rw [e] <;> omega

/-- What a row says to a test of the statement's. -/
def rowSays (d : Int) (c : Nat) (x : Int × ByteArray) (r : List (Int × ByteArray)) : Bool := saysB d c (r.getD c (0, .empty)).1 (r.getD c (0, .empty)).2 x.1 x.2

theorem filters (R : List Raw) (hR : ∀ r ∈ R, r.ok) (x : Raw) (hx : x.ok) (d : Int) (c : Nat) (hd : 1 ≤ d ∧ d ≤ 6) (hc : c < 4) (hcx : c < x.row.length) :
    (firsts R).filter (fun r => passB [1, 2, 3, 4] r [⟨d, c, x.row[c].1, x.row[c].2⟩]) = (firsts R).filter (rowSays d c x.row[c]) := by
  apply List.filter_congr
  intro r hr
  unfold firsts at hr
  obtain ⟨y, hy, rfl⟩ := List.mem_map.1 hr
  have hyok := hR y (List.mem_of_mem_take hy)
  have hcy : c < y.row.length := by rw [(raw_fits y).2.2]; exact hc
  rw [passB_one [1, 2, 3, 4] y.row d _ c _ hd hc hcy]
  have hk : ∀ h : c < ([1, 2, 3, 4] : List Int).length, ([1, 2, 3, 4] : List Int)[c] = (c : Int) + 1 := fun h => by
    match c, hc with
    | 0, _ => rfl
    | 1, _ => rfl
    | 2, _ => rfl
    | 3, _ => rfl
  have b1 := row_in64 y hyok c hcy
  have b2 := row_in64 x hx c hcx
  rw [hk, agree d c _ _ _ _ b1.1 b1.2 b2.1 b2.2 hd.1 hd.2]
  unfold rowSays
  simp [List.getD, hcy]

theorem Lent.keep {w w' : World} {la ua : Option Addr} {R : List Raw} {U : List Int} (h : Lent w la ua R U) (hb : Below w.heap.size w w') : Lent w' la ua R U := by
  refine ⟨?_, ?_, h.rok, h.uok, h.rl, h.ul⟩
  · rcases h.raws with h0 | ⟨b, o, e, hin⟩
    · exact .inl h0
    · refine .inr ⟨b, o, e, fun i hi => ?_⟩
      obtain ⟨c1, c2, c3, c4⟩ := hin i hi
      have hlt : b < w.heap.size := World.block_lt_of_cell? w ⟨b, o + i * 4, none⟩ c1
      exact ⟨(hb.cell (p := ⟨b, _, none⟩) hlt).trans c1, (hb.cell (p := ⟨b, _, none⟩) hlt).trans c2, (hb.cell (p := ⟨b, _, none⟩) hlt).trans c3, (hb.cell (p := ⟨b, _, none⟩) hlt).trans c4⟩
  · rcases h.ints with h0 | ⟨b, o, e, hin⟩
    · exact .inl h0
    · refine .inr ⟨b, o, e, fun i hi => ?_⟩
      have c1 := hin i hi
      have hlt : b < w.heap.size := World.block_lt_of_cell? w ⟨b, o + i, none⟩ c1
      exact (hb.cell (p := ⟨b, _, none⟩) hlt).trans c1

set_option maxRecDepth 100000 in
set_option maxHeartbeats 1000000 in
theorem compared_ok (la ua : Option Addr) (lc uc : Nat) (R : List Raw) (U : List Int) (x : Raw) (hx : x.ok) (w : World) (hl : Lent w la ua R U) :
    Calls Tryd.prog 4 #[.slice la R.length lc, .slice ua U.length uc, .agg #[.int .i64 x.n, .int .i64 x.bits, .string x.s, .int .i64 x.flag]] w fun e w' => e = .returned (.bool true) ∧ Below w.heap.size w w' := by
  obtain ⟨i0, hi0, hz0, hz1, hz2⟩ := info_parts info_row
  have HL : Hid (Lent w la ua R U) := hl
  have rl := hl.rl
  have ul := hl.ul
  have f1 := hx.2.2.1
  have f2 := hx.2.2.2
  have HX : Hid x.ok := hx
  clear hl hx
  go_enter Tryd.func4, Tryd.ntmps4
  go_wp2_with fail
  refine (known_ok _).mono ?_
  rintro e w1 ⟨rfl, hb1⟩
  have s1 := hb1.size
  simp at s1
  have B1 : Below w.heap.size w w1 := ((Below.refl _ _).alloc (Nat.le_refl _) _).trans (hb1.mono (by simp))
  have x0 : w1.cell? ⟨w.heap.size, 0, none⟩ = some (.int .i64 x.n) := (hb1.cell (p := ⟨w.heap.size, 0, none⟩) (by simp)).trans (by simp)
  have x1 : w1.cell? ⟨w.heap.size, 1, none⟩ = some (.int .i64 x.bits) := (hb1.cell (p := ⟨w.heap.size, 1, none⟩) (by simp)).trans (by simp)
  have x2 : w1.cell? ⟨w.heap.size, 2, none⟩ = some (.string x.s) := (hb1.cell (p := ⟨w.heap.size, 2, none⟩) (by simp)).trans (by simp)
  have x3 : w1.cell? ⟨w.heap.size, 3, none⟩ = some (.int .i64 x.flag) := (hb1.cell (p := ⟨w.heap.size, 3, none⟩) (by simp)).trans (by simp)
  go_wp2_with fail
  refine (table_ok la ua lc uc R U w1 (HL.out.keep B1)).mono ?_
  rintro e w2 ⟨bt, v, rfl, bs, sv, fv, L, M, hT, hM, hLe, hMe, hb2⟩
  have s2 := hb2.size
  have x0' := (hb2.cell (p := ⟨w.heap.size, 0, none⟩) (by simp; omega)).trans x0
  have x1' := (hb2.cell (p := ⟨w.heap.size, 1, none⟩) (by simp; omega)).trans x1
  have x2' := (hb2.cell (p := ⟨w.heap.size, 2, none⟩) (by simp; omega)).trans x2
  have x3' := (hb2.cell (p := ⟨w.heap.size, 3, none⟩) (by simp; omega)).trans x3
  have HT : Hid (TableAt w2 (w1.heap.size + 1) bt bs [1, 2, 3, 4] L sv fv) := hT
  have HM : Hid (RowsAt w2 (w1.heap.size + 1) v M) := hM
  have HLE : Hid (L.map Prod.snd = firsts R) := hLe
  have HME : Hid (M.map Prod.snd = firsts R) := hMe
  clear hT hM hLe hMe x0 x1 x2 x3
  go_wp2_with fail
  refine (row_ok x w2 f1 f2).mono ?_
  rintro e w3 ⟨rfl, hr3, hb3⟩
  have s3 := hb3.size
  have HR3 : Hid (RowBlk w3 (w2.heap.size + 1, x.row)) := hr3
  have T3 : Hid (TableAt w3 (w1.heap.size + 1) bt bs [1, 2, 3, 4] L sv fv) := HT.out.below hb3
  have M3 : Hid (RowsAt w3 (w1.heap.size + 1) v M) := HM.out.keepOn (fun j hj _ => hb3.block j hj)
  have B3 : Below w.heap.size w w3 := (B1.trans (hb2.mono (by omega))).trans (hb3.mono (by omega))
  obtain ⟨va, vc, hve, hvin⟩ := M3.out.rowsIn
  have hMl : M.length ≤ 300 := by
    have := congrArg List.length HME.out
    unfold firsts at this
    simp at this
    omega
  have HVI : Hid (RowsIn w3 va M) := hvin
  clear hr3 hvin x0' x1' x2' x3'
  subst hve
  go_wp2_with fail
  go_loopw [12] (fun c wr => ∃ k : Nat, k ≤ 4 ∧ c = .int .i64 k ∧ Below w3.heap.size w3 wr) (fun c _ => 4 - (intOf c).toNat)
  case atStart => exact ⟨0, by omega, rfl, Below.refl _ _⟩
  case round =>
    obtain ⟨c, hc4, rfl, hB⟩ := hrel
    by_cases hc : c < 4
    · have hc1 : (c : Int) < 4 := by omega
      go_wp2_with fail
      go_loopw [13] (fun d wr => ∃ k : Nat, 1 ≤ k ∧ k ≤ 7 ∧ d = .int .i64 k ∧ Below w3.heap.size w3 wr) (fun d _ => 7 - (intOf d).toNat)
      case atStart => exact ⟨1, by omega, by omega, rfl, hB⟩
      case round =>
        clear hB
        obtain ⟨d, hd1, hd7, rfl, hB⟩ := hrel
        by_cases hd : d ≤ 6
        · have hsr := hB.size
          have hcx : c < x.row.length := by rw [(raw_fits x).2.2]; exact hc
          obtain ⟨y1, y2⟩ := HR3.out.rowIn c hcx
          have hw2 : w2.heap.size + 1 < w3.heap.size := HR3.out.lt
          have e1 : ∀ o, wr.cell? ⟨w2.heap.size + 1, o, none⟩ = w3.cell? ⟨w2.heap.size + 1, o, none⟩ := fun o => hB.cell (p := ⟨w2.heap.size + 1, o, none⟩) hw2
          replace y1 := (e1 _).trans y1
          replace y2 := (e1 _).trans y2
          have HFI : Hid ((firsts R).filter (fun r => passB [1, 2, 3, 4] r [⟨d, c, x.row[c].1, x.row[c].2⟩]) = (firsts R).filter (rowSays d c x.row[c])) := filters R HL.out.rok x HX.out d c (by omega) hc hcx
          have HVA : Hid (ValidT [1, 2, 3, 4] [⟨d, c, x.row[c].1, x.row[c].2⟩]) := valid_one [1, 2, 3, 4] d _ c _ (by omega) hc ((raw_fits x).1.2 c hc hcx)
          have hx64 := row_in64 x HX.out c hcx
          have xa := hx64.1
          have xb := hx64.2
          clear e1 hx64
          generalize x.row[c] = xc at *
          have hc0 : (0 : Int) ≤ (c : Int) := by omega
          have TB : Hid (TableAt (wr.alloc (.cells #[.int .i64 d, .int .i64 c, .int .i64 xc.1, .string xc.2] 32)) (w1.heap.size + 1) bt bs [1, 2, 3, 4] L sv fv) := (T3.out.below hB).below ((Below.refl _ _).alloc (Nat.le_refl _) _)
          have hLl : L.length ≤ 300 := by
            have := congrArg List.length HLE.out
            unfold firsts at this
            simp at this
            omega
          have HLR : Hid (∀ p ∈ L, p.2.length = ([1, 2, 3, 4] : List Int).length ∧ ∀ z ∈ p.2, z.2.size ≤ 1000000) := fun p hp => by
            have : p.2 ∈ firsts R := by rw [← HLE.out]; exact List.mem_map_of_mem hp
            unfold firsts at this
            obtain ⟨y, _, e⟩ := List.mem_map.1 this
            rw [← e]
            exact ⟨(raw_fits y).2.2, (raw_fits y).2.1⟩
          go_wp2_with fail
          refine (scan_ok (w1.heap.size + 1) bt bs [1, 2, 3, 4] L sv fv 1 (some ⟨wr.heap.size, 0, none⟩) [⟨d, c, xc.1, xc.2⟩] _ TB.out (by omega) (by decide) (by decide) HLR.out (.inr ⟨_, rfl, tests_one wr d c xc.1 xc.2⟩) HVA.out).mono ?_
          rintro e w5 ⟨vg, G, rfl, hG, hGe, hb5, _⟩
          have s5 := hb5.size
          simp at s5
          have B5 : Below w3.heap.size w3 w5 := (hB.alloc hsr _).trans (hb5.mono (by simp; omega))
          have HG : Hid (RowsAt w5 (wr.alloc (.cells #[.int .i64 d, .int .i64 c, .int .i64 xc.1, .string xc.2] 32)).heap.size vg G) := hG
          have HGE : Hid (G.map Prod.snd = (firsts R).filter (rowSays d c xc)) := by unfold Hid; rw [hGe, HLE.out, HFI.out]
          obtain ⟨ga, gc, hge, _⟩ := hG.rowsIn
          clear hG hGe TB hb5
          subst hge
          have y1' := (B5.cell (p := ⟨w2.heap.size + 1, c * 2, none⟩) hw2).trans ((hB.cell (p := ⟨w2.heap.size + 1, c * 2, none⟩) hw2).symm.trans y1)
          have y2' := (B5.cell (p := ⟨w2.heap.size + 1, c * 2 + 1, none⟩) hw2).trans ((hB.cell (p := ⟨w2.heap.size + 1, c * 2 + 1, none⟩) hw2).symm.trans y2)
          clear y1 y2
          go_wp2_with fail
          go_loopw [16, 17] (fun wt i wq => ∃ k : Nat, k ≤ M.length ∧ i = .int .i64 k ∧ Below w5.heap.size w5 wq ∧ ∃ W, RowsAt wq (w1.heap.size + 1) wt W ∧ W.map Prod.snd = ((M.take k).map Prod.snd).filter (rowSays d c xc) ∧ (∀ j, wt.ownBlock = some j → w5.heap.size ≤ j)) (fun _ i _ => M.length - (intOf i).toNat)
          case atStart => exact ⟨0, Nat.zero_le _, rfl, Below.refl _ _, [], ⟨World.ownsRow_nil _ _ _ _, by simp⟩, rfl, fun j h => by cases h⟩
          case round =>
            obtain ⟨k, hk, rfl, hBq, W, hW, hWe, hWo⟩ := hrel
            have HW : Hid (RowsAt wr (w1.heap.size + 1) u16 W) := hW
            have HWE : Hid (W.map Prod.snd = ((M.take k).map Prod.snd).filter (rowSays d c xc)) := hWe
            have HWO : Hid (∀ j, u16.ownBlock = some j → w5.heap.size ≤ j) := hWo
            have sq := hBq.size
            have sB := B5.size
            have B6 : Below w3.heap.size w3 wr := B5.trans (hBq.mono sB)
            have hWl : W.length ≤ 300 := by
              have : (W.map Prod.snd).length ≤ M.length := by rw [hWe]; exact Nat.le_trans (List.length_filter_le _ _) (by simp; omega)
              simp at this; omega
            clear hW hWe hWo
            by_cases hlk : k < M.length
            · rcases HVI.out.at' with h0 | ⟨mg, rfl, hmc⟩
              · rw [h0] at hlk; simp at hlk
              have cm := hmc k hlk
              have hmg : mg < w3.heap.size := World.block_lt_of_cell? w3 ⟨mg, k, none⟩ cm
              have m1 : wr.cell? ⟨mg, k, none⟩ = some (.slice (some ⟨M[k].1, 0, none⟩) M[k].2.length M[k].2.length) := (B6.cell (p := ⟨mg, k, none⟩) hmg).trans cm
              have hblk := M3.out.blk M[k] (List.getElem_mem hlk)
              have hmem : M[k].2 ∈ firsts R := by rw [← HME.out]; exact List.mem_map_of_mem (List.getElem_mem hlk)
              obtain ⟨yr, hyo, hye⟩ : ∃ y : Raw, y.ok ∧ y.row = M[k].2 := by
                unfold firsts at hmem
                obtain ⟨y, hy, e⟩ := List.mem_map.1 hmem
                exact ⟨y, HL.out.rok y (List.mem_of_mem_take hy), e⟩
              have hr4 : M[k].2.length = 4 := by rw [← hye]; exact (raw_fits yr).2.2
              have hcr : c < M[k].2.length := by omega
              have h64 : in64 (M[k].2[c]).1 := by
                have hcy : c < yr.row.length := by rw [(raw_fits yr).2.2]; exact hc
                have := row_in64 yr hyo c hcy
                simp only [hye] at this
                exact this
              have za := h64.1
              have zb := h64.2
              have hm1 : M[k].1 < w3.heap.size := hblk.2.lt
              obtain ⟨q1, q2⟩ := hblk.2.rowIn c hcr
              replace q1 := (B6.cell (p := ⟨M[k].1, c * 2, none⟩) hm1).trans q1
              replace q2 := (B6.cell (p := ⟨M[k].1, c * 2 + 1, none⟩) hm1).trans q2
              have HBK : Hid ((w1.heap.size + 1) ≤ M[k].1 ∧ RowBlk wr M[k]) := ⟨hblk.1, (B6.block _ hm1).trans hblk.2⟩
              have HSY : Hid (rowSays d c xc M[k].2 = saysB d c (M[k].2[c]).1 (M[k].2[c]).2 xc.1 xc.2) := by unfold rowSays Hid; simp [List.getD, hcr]
              have HFS : Hid (((M.take (k + 1)).map Prod.snd).filter (rowSays d c xc) = ((M.take k).map Prod.snd).filter (rowSays d c xc) ++ (if rowSays d c xc M[k].2 then [M[k].2] else [])) := by
                unfold Hid
                rw [List.take_succ_eq_append_getElem hlk, List.map_append, List.filter_append]
                congr 1
                simp [List.filter_cons]
              have HRV : Hid (rval M[k] = .slice (some ⟨M[k].1, 0, none⟩) 4 4) := by unfold rval Hid; rw [hr4]
              rw [hr4] at m1
              have n1 : wr.cell? ⟨w2.heap.size + 1, c * 2, none⟩ = some (.int .i64 xc.1) := (hBq.cell (p := ⟨w2.heap.size + 1, c * 2, none⟩) (by simp; omega)).trans y1'
              have n2 : wr.cell? ⟨w2.heap.size + 1, c * 2 + 1, none⟩ = some (.string xc.2) := (hBq.cell (p := ⟨w2.heap.size + 1, c * 2 + 1, none⟩) (by simp; omega)).trans y2'
              clear cm hmem hblk h64 hye hyo hr4 hmc
              generalize hzc : M[k].2[c] = zc at *
              clear hzc
              generalize M[k] = pk at *
              have hk0 : (0 : Int) ≤ (k : Int) := by omega
              have hk1 : (k : Int) < (M.length : Int) := by omega
              cases hs : saysB d c zc.1 zc.2 xc.1 xc.2
              · have HS : Hid (saysB d c zc.1 zc.2 xc.1 xc.2 = false) := hs
                go_wp2_with fail
                go_region_held3 (fun w' => w'.cell? ⟨mg, k, none⟩ = some (.slice (some ⟨pk.1, 0, none⟩) 4 4) ∧ w'.cell? ⟨pk.1, c * 2, none⟩ = some (.int .i64 zc.1) ∧ w'.cell? ⟨pk.1, c * 2 + 1, none⟩ = some (.string zc.2) ∧ w'.cell? ⟨w2.heap.size + 1, c * 2, none⟩ = some (.int .i64 xc.1) ∧ w'.cell? ⟨w2.heap.size + 1, c * 2 + 1, none⟩ = some (.string xc.2)) (go_keep)
                  (first
                    | (go_at_call 13; refine (says_any _ _ _ _ _ _ _ za zb xa xb).mono ?_; rintro e w6 ⟨rfl, hb6⟩
                       have s6 := hb6.size
                       have k1 : w6.cell? ⟨mg, k, none⟩ = some (.slice (some ⟨pk.1, 0, none⟩) 4 4) := (hb6.cell (p := ⟨mg, k, none⟩) (by simp; omega)).trans m1
                       have k2 : w6.cell? ⟨pk.1, c * 2, none⟩ = some (.int .i64 zc.1) := (hb6.cell (p := ⟨pk.1, c * 2, none⟩) (by simp; omega)).trans q1
                       have k3 : w6.cell? ⟨pk.1, c * 2 + 1, none⟩ = some (.string zc.2) := (hb6.cell (p := ⟨pk.1, c * 2 + 1, none⟩) (by simp; omega)).trans q2
                       have k4 : w6.cell? ⟨w2.heap.size + 1, c * 2, none⟩ = some (.int .i64 xc.1) := (hb6.cell (p := ⟨w2.heap.size + 1, c * 2, none⟩) (by simp; omega)).trans n1
                       have k5 : w6.cell? ⟨w2.heap.size + 1, c * 2 + 1, none⟩ = some (.string xc.2) := (hb6.cell (p := ⟨w2.heap.size + 1, c * 2 + 1, none⟩) (by simp; omega)).trans n2))
                clear k2 k3 k4 k5 m1 q1 q2 n1 n2 y1' y2'
                go_wp2
                go_roundw
                case rel =>
                  refine ⟨k + 1, by omega, by go_num, hBq.drew.trans (hb6.mono (by simp; omega)), W, HW.out.keepOn (fun j hj _ => hb6.block j hj), ?_, HWO.out⟩
                  rw [HFS.out, HSY.out, HS.out, HWE.out]; simp
                case measure => simp [intOf]; omega
              · have HS : Hid (saysB d c zc.1 zc.2 xc.1 xc.2 = true) := hs
                go_wp2_with fail
                go_region_held3 (fun w' => w'.cell? ⟨mg, k, none⟩ = some (.slice (some ⟨pk.1, 0, none⟩) 4 4) ∧ w'.cell? ⟨pk.1, c * 2, none⟩ = some (.int .i64 zc.1) ∧ w'.cell? ⟨pk.1, c * 2 + 1, none⟩ = some (.string zc.2) ∧ w'.cell? ⟨w2.heap.size + 1, c * 2, none⟩ = some (.int .i64 xc.1) ∧ w'.cell? ⟨w2.heap.size + 1, c * 2 + 1, none⟩ = some (.string xc.2)) (go_keep)
                  (first
                    | (go_at_call 13; refine (says_any _ _ _ _ _ _ _ za zb xa xb).mono ?_; rintro e w6 ⟨rfl, hb6⟩
                       have s6 := hb6.size
                       have k1 : w6.cell? ⟨mg, k, none⟩ = some (.slice (some ⟨pk.1, 0, none⟩) 4 4) := (hb6.cell (p := ⟨mg, k, none⟩) (by simp; omega)).trans m1
                       have k2 : w6.cell? ⟨pk.1, c * 2, none⟩ = some (.int .i64 zc.1) := (hb6.cell (p := ⟨pk.1, c * 2, none⟩) (by simp; omega)).trans q1
                       have k3 : w6.cell? ⟨pk.1, c * 2 + 1, none⟩ = some (.string zc.2) := (hb6.cell (p := ⟨pk.1, c * 2 + 1, none⟩) (by simp; omega)).trans q2
                       have k4 : w6.cell? ⟨w2.heap.size + 1, c * 2, none⟩ = some (.int .i64 xc.1) := (hb6.cell (p := ⟨w2.heap.size + 1, c * 2, none⟩) (by simp; omega)).trans n1
                       have k5 : w6.cell? ⟨w2.heap.size + 1, c * 2 + 1, none⟩ = some (.string xc.2) := (hb6.cell (p := ⟨w2.heap.size + 1, c * 2 + 1, none⟩) (by simp; omega)).trans n2))
                have HO6 : Hid (w6.ownsRow (w1.heap.size + 1) 25 1 u16 W.length (W.map rval)) := ownsRow_below (ownsRow_drew HW.out.own) hb6
                have HW6 : Hid (RowsAt w6 (w1.heap.size + 1) u16 W) := HW.out.keepOn (fun j hj _ => hb6.block j hj)
                have HB6 : Hid ((w1.heap.size + 1) ≤ pk.1 ∧ RowBlk w6 pk) := ⟨HBK.out.1, (hb6.block _ (by simp; omega)).trans HBK.out.2⟩
                simp at s6
                clear k2 k3 k4 k5 m1 q1 q2 n1 n2 y1' y2'
                go_wp2_with (at_builtin; refine wpList_append_lies _ rfl _ _ _ rfl (w1.heap.size + 1) 25 i0 _ 1 24 Tryd.underlying39 hi0 hz0 hz1 hz2 rfl (by omega) u16 W.length (W.map rval) (by rfl) (HO6.out.alloc _) ⟨w6.heap.size, 0, none⟩ 1 1 [.slice (some ⟨pk.1, 0, none⟩) 4 4] (by rfl) (by rfl) (World.news_of_block (cs := #[.slice (some ⟨pk.1, 0, none⟩) 4 4]) (t := 25) (fr := (0, 0)) (heap_alloc_new w6 _)) (by simp [Value.oneCell']) (by omega) (by unfold maxLen; omega) (by omega) (by simp; omega) (w6.heap.size + 1) (by simp) ?_; intro gg cp w7 hown7 hgrow hat hlt7)
                go_roundw
                case rel =>
                  refine ⟨k + 1, by omega, by go_num, Below.grown ((hBq.drew.trans (hb6.mono (by simp; omega))).alloc (by omega) _) hgrow (by simp; omega) (fun j hj => HWO.out j hj), W ++ [pk], rows_push_old HW6.out HB6.out (by rw [HRV.out]; exact hown7) hgrow, ?_, fun j hj => ?_⟩
                  · rw [HFS.out, HSY.out, HS.out, List.map_append, HWE.out]; simp
                  · simp only [Value.ownBlock, Option.some.injEq] at hj
                    subst hj
                    rcases hat with h | h
                    · exact HWO.out _ h
                    · omega
                case measure => simp [intOf]; omega
            · have hke : M.take k = M := List.take_of_length_le (by omega)
              have HGQ : RowsAt wr _ (.slice ga G.length gc) G := HG.out.keepOn (fun j hj _ => hBq.block j hj)
              obtain ⟨a', c', e', hgin⟩ := HGQ.rowsIn
              simp only [Value.slice.injEq, true_and] at e'
              obtain ⟨rfl, rfl⟩ := e'
              obtain ⟨wa, wc, hwe, hwin⟩ := HW.out.rowsIn
              have HEQ : Hid (G.map Prod.snd = W.map Prod.snd) := by unfold Hid; rw [HGE.out, HWE.out, hke, HME.out]
              have HGI : Hid (RowsIn wr ga G) := hgin
              have HWI : Hid (RowsIn wr wa W) := hwin
              have hGl : G.length ≤ 300 := by have := congrArg List.length HEQ.out; simp at this; omega
              have HG4 : Hid (∀ p ∈ G, p.2.length ≤ 100000) := fun p hp => by
                have : p.2 ∈ (firsts R).filter (rowSays d c xc) := by rw [← HGE.out]; exact List.mem_map_of_mem hp
                have := (List.mem_filter.1 this).1
                unfold firsts at this
                obtain ⟨y, _, e⟩ := List.mem_map.1 this
                rw [← e, (raw_fits y).2.2]; omega
              clear hke HGQ hgin hwin y1' y2'
              subst hwe
              go_wp2_with fail
              refine (same_eq ga wa gc wc G W wr HGI.out HWI.out HEQ.out (by omega) HG4.out).mono ?_
              rintro e w8 ⟨rfl, q, rfl⟩
              go_wp2
              go_roundw
              case rel => exact ⟨d + 1, by omega, by omega, by go_num, B6.trans ((drewN_below wr q).mono (by omega))⟩
              case measure => simp [intOf]; omega
        · go_wp2
          go_roundw
          case rel => exact ⟨c + 1, by omega, by go_num, hB⟩
          case measure => simp [intOf]; omega
    · go_wp2
      go_ret
      exact ⟨rfl, B3.trans (hB.mono B3.size)⟩

end Go.Proofs.YtcconhgbefhdeaaDoor
