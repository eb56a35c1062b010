import Derived.Test.YtcconhgbefhdeaaDoorScansP12
namespace Go.Proofs.YtcconhgbefhdeaaDoor
open Go.RowKit
attribute [local go_sem ↓] Go.wp_at_zero Go.wp_at_succ

theorem schemaFault_zero {ks : List Int} (h : (schemaFault ks).1 = 0) : schemaFault ks = (0, 0) ∧ GoodK ks := by
  unfold schemaFault at h ⊢
  split at h
  · simp at h
  · rename_i hb
    split at h
    · simp at h
    · rename_i h2
      exact ⟨if_neg h2, ⟨by omega, by omega, badKind_none ks 0 hb⟩⟩
theorem schemaFault_one {ks : List Int} (h : (schemaFault ks).1 ≠ 0) : (schemaFault ks).1 = 1 := by
  unfold schemaFault at h ⊢
  split at h
  · rfl
  · split at h
    · rename_i h2; rw [if_pos h2]
    · simp at h

/-- What the program's New leaves. -/
def TabNews (ks : List Int) (w : World) (e : Ending) (w' : World) : Prop :=
  ∃ tvv ev, e = .returned (.tuple #[.pointer tvv, ev]) ∧ ErrIs w' ev (schemaFault ks).1 (schemaFault ks).2 ∧ Below w.heap.size w w' ∧ ((schemaFault ks).1 ≠ 0 → tvv = none) ∧
    ((schemaFault ks).1 = 0 → ∃ bt, tvv = some ⟨bt, 0, none⟩ ∧ TabOK w' (fun b => w.heap.size ≤ b ∧ b < w'.heap.size) bt ks [])

theorem tabNews_any (sa : Option Addr) (cap : Nat) (ks : List Int) (w : World) (hE : ErrType w) (hks : KindsAt w sa ks) (hl : ks.length ≤ 9000000) :
    Calls Tryd.prog 24 #[.slice sa ks.length cap] w (TabNews ks w) := by
  by_cases h0 : (schemaFault ks).1 = 0
  · obtain ⟨hz, hg⟩ := schemaFault_zero h0
    rcases hks with hn | ⟨g, rfl, hin⟩
    · have e2 := hg.one
      rw [hn] at e2
      simp at e2
    refine (tabNew_ok g cap ks w hin hg).mono ?_
    rintro e w' ⟨bt, rfl, h1, h2⟩
    exact ⟨_, _, rfl, .inl ⟨rfl, by rw [hz], by rw [hz]⟩, h2, fun h => absurd h0 h, fun _ => ⟨bt, rfl, h1⟩⟩
  · refine (new_bad sa cap ks w hE hks hl h0).mono ?_
    rintro e w' ⟨fb, rfl, h1, h2⟩
    exact ⟨_, _, rfl, .inr (by rw [schemaFault_one h0]; exact h1), h2, fun _ => rfl, fun h => absurd h h0⟩

theorem lentI_length (ks : List Int) : (lentI ks).length = ks.length + 2 := by simp [lentI]
theorem lentI_at (ks : List Int) (k : Nat) (h : k < ks.length + 2) : ∃ z, (lentI ks)[k]? = some (.int .i64 z) := by
  unfold lentI
  rw [List.getElem?_map, List.getElem?_eq_getElem (by simpa using h)]
  exact ⟨_, rfl⟩
theorem lentI_kinds {w : World} {g : Nat} {ks : List Int} (h : w.heap[g]? = some (.cells (lentI ks).toArray 3 (0, 0))) : KindsIn w g ks := fun i hi => by
  rw [cell_of_row _ _ _ _ _ _ h, List.getElem?_toArray, lentI, List.getElem?_map, List.getElem?_append_left hi, List.getElem?_eq_getElem hi]; rfl

/-- Nothing of ours turned. -/
theorem WorldOK.same {w w' : World} {wb : Nat} {col : Nat → Nat} {Ts : List Tbl} {s s' : Nat} (h : WorldOK w wb col Ts s) (hs : s ≤ s') (hF : FrS (fun _ => False) w w') : WorldOK w' wb (fun b => if b < w.heap.size then col b else 0) Ts s' := by
  obtain ⟨tv, rv, lv, ov, ls, rws, hb, hc, kl, kr, l4, r4, lb, rb⟩ := h.ex
  have blk : ∀ b, b < w.heap.size → w'.heap[b]? = w.heap[b]? := fun b hb => hF.block b hb (fun h => h)
  have hz := hF.size
  have kept : ∀ b, Kept col w b → Kept (fun b => if b < w.heap.size then col b else 0) w' b := fun b hb => ⟨by show (if b < w.heap.size then col b else 0) = 1; rw [if_pos hb.2]; exact hb.1, by have := hb.2; omega⟩
  refine ⟨?_, ⟨tv, rv, lv, ov, ls, rws, hb.keep (fun k hk => blk k (hb.lt k hk)), ?_, fun j hj => (kl j hj).keep kept (fun b hb => blk b hb.2), fun j hj => (kr j hj).keep kept (fun b hb => blk b hb.2), l4, r4, by omega, by omega⟩, ?_, by have := h.few; omega⟩
  · show (if wb < w.heap.size then col wb else 0) = 2
    rw [if_pos (hb.lt wb (.inl rfl))]; exact h.wbc
  · intro v hv g hg
    show (if g < w.heap.size then col g else 0) = 2
    rw [if_pos (hb.lt g (.inr ⟨v, hv, hg⟩))]; exact hc v hv g hg
  · intro j hj
    obtain ⟨p1, p2, p3⟩ := h.tabs j hj
    refine ⟨p1.keep hz (fun k hk hs => ?_) (fun k hk _ => blk k hk), p2, p3⟩
    show (if k < w.heap.size then col k else 0) = 3 + j
    rw [if_pos hk]; exact hs

/-- What made leaves. -/
def MadePost (wb : Nat) (col : Nat → Nat) (Ts : List Tbl) (s : Nat) (ks : List Int) (w : World) (e : Ending) (w' : World) : Prop :=
  e = .returned (.bool true) ∧ ∃ col' bt br, WorldOK w' wb col' (if (schemaFault ks).1 = 0 then Ts ++ [⟨bt, br, ks, []⟩] else Ts) (s + 1) ∧ (∀ b, b < w.heap.size → col' b = col b) ∧ FrS (fun b => col b ≠ 0) w w'

set_option maxRecDepth 100000 in
set_option maxHeartbeats 2000000 in
theorem made_bad (wb : Nat) (col : Nat → Nat) (Ts : List Tbl) (s : Nat) (ks : List Int) (ra : Option Addr) (cap : Nat) (w : World) (hE : ErrType w) (h : WorldOK w wb col Ts s) (hks : KindsA w ra ks) (hl : ks.length ≤ 9000000) (hf : (schemaFault ks).1 ≠ 0) :
    Calls Tryd.prog 19 #[.pointer (some ⟨wb, 0, none⟩), .slice ra ks.length cap] w (MadePost wb col Ts s ks w) := by
  have HW : Hid (WorldOK w wb col Ts s) := h
  have HKA : Hid (KindsA w ra ks) := hks
  clear h hks
  have hq : ∀ (W : World) (a : Option Addr) (n c n' c' : Nat), (binOp .eql 24 (.slice a n c) (.slice none n' c')).run Tryd.prog W = .ok (.bool (a.isNone)) W := fun W a n c n' c' => Lib.run_eql_slice_nil W _ _ a n c n' c' Tryd.underlying24
  go_enter Tryd.func19, Tryd.ntmps19
  go_wp2_with fail
  refine (numbers_any ra cap ks w HKA.out hl).mono ?_
  rintro e w1 ⟨rfl, hA, b1, _⟩
  have z1 : w.heap.size < w1.heap.size := (Array.getElem?_eq_some_iff.1 hA).1
  have HA : Hid (w1.heap[w.heap.size]? = some (.cells (lentI ks).toArray 3 (0, 0))) := hA
  clear hA
  have i0 : (0 : Int) ≤ (ks.length : Int) := by omega
  have i1 : (ks.length : Int) ≤ (ks.length : Int) + 2 := by omega
  have hra : ra = none ∨ ∃ a, ra = some a := by cases ra; exact .inl rfl; exact .inr ⟨_, rfl⟩
  rcases hra with rfl | ⟨a, rfl⟩
  rotate_left
  · go_wp2_with fail
    refine (tabNews_any (some ⟨w.heap.size, 0, none⟩) (ks.length + 2) ks w1 (hE.below b1) (.inr ⟨_, rfl, lentI_kinds HA.out⟩) hl).mono ?_
    rintro e w2 ⟨tvv, ev, rfl, herr, b2, hbad, hgood⟩
    have HBAD : Hid ((schemaFault ks).1 ≠ 0 → tvv = none) := hbad
    have HGOOD : Hid ((schemaFault ks).1 = 0 → ∃ bt, tvv = some ⟨bt, 0, none⟩ ∧ TabOK w2 (fun b => w1.heap.size ≤ b ∧ b < w2.heap.size) bt ks []) := hgood
    clear hbad hgood
    have z2 := b2.size
    go_wp2_with fail
    refine (lawFault_any ev _ _ w2 herr).mono ?_
    rintro e _ ⟨rfl, n, rfl⟩
    have hold : ∀ k, k < w.heap.size → (w2.drewN n).heap[k]? = w.heap[k]? := fun k hk => (b2.block k (by omega)).trans (b1.block k hk)
    have HOLD : Hid (∀ k, k < w.heap.size → (w2.drewN n).heap[k]? = w.heap[k]?) := hold
    clear hold
    go_wp2_with fail
    refine (refSchema_any _ cap ks (w2.drewN n) (HKA.out.keep (fun k hk => HOLD.out k hk)) hl).mono ?_
    rintro e _ ⟨rfl, rfl⟩
    go_wp2_with fail
    refine (numbers_any _ cap ks (w2.drewN n) (HKA.out.keep (fun k hk => HOLD.out k hk)) hl).mono ?_
    rintro e w3 ⟨rfl, hW, b3, _⟩
    have z3 : w2.heap.size < w3.heap.size := (Array.getElem?_eq_some_iff.1 hW).1
    have HWn : Hid (w3.heap[w2.heap.size]? = some (.cells (lentI ks).toArray 3 (0, 0))) := hW
    have HA3 : Hid (w3.heap[w.heap.size]? = some (.cells (lentI ks).toArray 3 (0, 0))) := (b3.block _ (show w.heap.size < w2.heap.size by omega)).trans ((b2.block _ z1).trans HA.out)
    clear hW
    go_wp2_with fail
    go_loopw [14, 15] (fun o j wr => ∃ k : Nat, k ≤ ks.length + 2 ∧ o = .bool true ∧ j = .int .i64 k ∧ Fr [w.heap.size] w3 wr ∧ ∃ cur : Array Value, wr.heap[w.heap.size]? = some (.cells cur 3 (0, 0)) ∧ cur.size = ks.length + 2 ∧ ∀ x, k ≤ x → cur[x]? = (lentI ks)[x]?) (fun _ j _ => ks.length + 2 - (intOf j).toNat)
    case atStart => exact ⟨0, Nat.zero_le _, rfl, rfl, Fr.refl _ _, _, HA3.out, by simp [lentI_length], fun x _ => by simp⟩
    case round =>
      obtain ⟨k, hk, rfl, rfl, hF, cur, hcur, hsz, hc⟩ := hrel
      by_cases hlt : k < ks.length + 2
      · obtain ⟨z, hz⟩ := lentI_at ks k hlt
        have x0 : wr.cell? ⟨w.heap.size, k, none⟩ = some (.int .i64 z) := by rw [cell_of_row _ _ _ _ _ _ hcur, hc _ (Nat.le_refl _)]; exact hz
        have x1 : wr.cell? ⟨w2.heap.size, k, none⟩ = some (.int .i64 z) := (hF.cell w2.heap.size k z3 (by simp; omega)).trans (by rw [cell_of_row _ _ _ _ _ _ HWn.out]; simpa using hz)
        have f0 : wr.frozen? ⟨w.heap.size, k, none⟩ = false := by simp [World.frozen?, hcur]
        have HCUR : Hid (wr.heap[w.heap.size]? = some (.cells cur 3 (0, 0))) := hcur
        have HC : Hid (∀ x, k ≤ x → cur[x]? = (lentI ks)[x]?) := hc
        have i0 : (0 : Int) ≤ (k : Int) := by omega
        have i1 : (k : Int) < (ks.length : Int) + 2 := by omega
        clear hcur hc hz
        go_wp2_with fail
        go_quiet (fail)
        go_wp2
        go_roundw
        case rel =>
          refine ⟨k + 1, by omega, by simp, by go_num, (hF.drewN _).setCell (p := ⟨w.heap.size, _, none⟩) (.inl (by simp)) _, _, heap_setCell_same _ _ _ _ _ _ HCUR.out, by simpa using hsz, fun x hx => ?_⟩
          rw [Array.getElem?_setIfInBounds_ne (by omega)]
          exact HC.out x (by omega)
        case measure => simp [intOf]; omega
      · have i1 : ¬ (k : Int) < (ks.length : Int) + 2 := by omega
        have hsame : FrS (fun _ => False) w wr := by
          refine ⟨hF.os.trans (b3.os.trans (b2.os.trans b1.os)), hF.tape.trans (b3.tape.trans (b2.tape.trans b1.tape)), hF.output.trans (b3.output.trans (b2.output.trans b1.output)), by have := hF.size; omega, fun b hb _ => ?_⟩
          exact (hF.block b (by omega) (by simp; omega)).trans ((b3.block b (show b < w2.heap.size by omega)).trans (HOLD.out b hb))
        have HS : Hid (FrS (fun _ => False) w wr) := hsame
        clear hc hcur hsame
        have e1 : tvv = none := HBAD.out hf
        subst e1
        have e2 := schemaFault_one hf
        go_wp2
        go_ret
        refine ⟨by simp, _, 0, 0, by rw [if_neg hf]; exact HW.out.same (Nat.le_succ s) HS.out, fun b hb => if_pos hb, HS.out.mono (fun _ h => h.elim)⟩
  · have HK0 : Hid (ks = []) := by
      rcases HKA.out with h | ⟨g, zo, h, _⟩
      · exact h
      · cases h
    have hts := tabNews_any none 0 ks w1 (hE.below b1) (.inl HK0.out) hl
    rw [show ks.length = 0 by rw [HK0.out]; rfl] at hts
    go_wp2_with fail
    refine hts.mono ?_
    clear hts
    rintro e w2 ⟨tvv, ev, rfl, herr, b2, hbad, hgood⟩
    have HBAD : Hid ((schemaFault ks).1 ≠ 0 → tvv = none) := hbad
    have HGOOD : Hid ((schemaFault ks).1 = 0 → ∃ bt, tvv = some ⟨bt, 0, none⟩ ∧ TabOK w2 (fun b => w1.heap.size ≤ b ∧ b < w2.heap.size) bt ks []) := hgood
    clear hbad hgood
    have z2 := b2.size
    go_wp2_with fail
    refine (lawFault_any ev _ _ w2 herr).mono ?_
    rintro e _ ⟨rfl, n, rfl⟩
    have hold : ∀ k, k < w.heap.size → (w2.drewN n).heap[k]? = w.heap[k]? := fun k hk => (b2.block k (by omega)).trans (b1.block k hk)
    have HOLD : Hid (∀ k, k < w.heap.size → (w2.drewN n).heap[k]? = w.heap[k]?) := hold
    clear hold
    go_wp2_with fail
    refine (refSchema_any _ cap ks (w2.drewN n) (HKA.out.keep (fun k hk => HOLD.out k hk)) hl).mono ?_
    rintro e _ ⟨rfl, rfl⟩
    go_wp2_with fail
    refine (numbers_any _ cap ks (w2.drewN n) (HKA.out.keep (fun k hk => HOLD.out k hk)) hl).mono ?_
    rintro e w3 ⟨rfl, hW, b3, _⟩
    have z3 : w2.heap.size < w3.heap.size := (Array.getElem?_eq_some_iff.1 hW).1
    have HWn : Hid (w3.heap[w2.heap.size]? = some (.cells (lentI ks).toArray 3 (0, 0))) := hW
    have HA3 : Hid (w3.heap[w.heap.size]? = some (.cells (lentI ks).toArray 3 (0, 0))) := (b3.block _ (show w.heap.size < w2.heap.size by omega)).trans ((b2.block _ z1).trans HA.out)
    clear hW
    go_wp2_with fail
    go_loopw [14, 15] (fun o j wr => ∃ k : Nat, k ≤ ks.length + 2 ∧ o = .bool true ∧ j = .int .i64 k ∧ Fr [w.heap.size] w3 wr ∧ ∃ cur : Array Value, wr.heap[w.heap.size]? = some (.cells cur 3 (0, 0)) ∧ cur.size = ks.length + 2 ∧ ∀ x, k ≤ x → cur[x]? = (lentI ks)[x]?) (fun _ j _ => ks.length + 2 - (intOf j).toNat)
    case atStart => exact ⟨0, Nat.zero_le _, rfl, rfl, Fr.refl _ _, _, HA3.out, by simp [lentI_length], fun x _ => by simp⟩
    case round =>
      obtain ⟨k, hk, rfl, rfl, hF, cur, hcur, hsz, hc⟩ := hrel
      by_cases hlt : k < ks.length + 2
      · obtain ⟨z, hz⟩ := lentI_at ks k hlt
        have x0 : wr.cell? ⟨w.heap.size, k, none⟩ = some (.int .i64 z) := by rw [cell_of_row _ _ _ _ _ _ hcur, hc _ (Nat.le_refl _)]; exact hz
        have x1 : wr.cell? ⟨w2.heap.size, k, none⟩ = some (.int .i64 z) := (hF.cell w2.heap.size k z3 (by simp; omega)).trans (by rw [cell_of_row _ _ _ _ _ _ HWn.out]; simpa using hz)
        have f0 : wr.frozen? ⟨w.heap.size, k, none⟩ = false := by simp [World.frozen?, hcur]
        have HCUR : Hid (wr.heap[w.heap.size]? = some (.cells cur 3 (0, 0))) := hcur
        have HC : Hid (∀ x, k ≤ x → cur[x]? = (lentI ks)[x]?) := hc
        have i0 : (0 : Int) ≤ (k : Int) := by omega
        have i1 : (k : Int) < (ks.length : Int) + 2 := by omega
        clear hcur hc hz
        go_wp2_with fail
        go_quiet (fail)
        go_wp2
        go_roundw
        case rel =>
          refine ⟨k + 1, by omega, by simp, by go_num, (hF.drewN _).setCell (p := ⟨w.heap.size, _, none⟩) (.inl (by simp)) _, _, heap_setCell_same _ _ _ _ _ _ HCUR.out, by simpa using hsz, fun x hx => ?_⟩
          rw [Array.getElem?_setIfInBounds_ne (by omega)]
          exact HC.out x (by omega)
        case measure => simp [intOf]; omega
      · have i1 : ¬ (k : Int) < (ks.length : Int) + 2 := by omega
        have hsame : FrS (fun _ => False) w wr := by
          refine ⟨hF.os.trans (b3.os.trans (b2.os.trans b1.os)), hF.tape.trans (b3.tape.trans (b2.tape.trans b1.tape)), hF.output.trans (b3.output.trans (b2.output.trans b1.output)), by have := hF.size; omega, fun b hb _ => ?_⟩
          exact (hF.block b (by omega) (by simp; omega)).trans ((b3.block b (show b < w2.heap.size by omega)).trans (HOLD.out b hb))
        have HS : Hid (FrS (fun _ => False) w wr) := hsame
        clear hc hcur hsame
        have e1 : tvv = none := HBAD.out hf
        subst e1
        have e2 := schemaFault_one hf
        go_wp2
        go_ret
        refine ⟨by simp, _, 0, 0, by rw [if_neg hf]; exact HW.out.same (Nat.le_succ s) HS.out, fun b hb => if_pos hb, HS.out.mono (fun _ h => h.elim)⟩

end Go.Proofs.YtcconhgbefhdeaaDoor

namespace Go.Proofs.YtcconhgbefhdeaaDoor
open Go.RowKit
attribute [local go_sem ↓] Go.wp_at_zero Go.wp_at_succ

theorem info_tab : (Tryd.prog.info? 38).map (fun i => (i.zero, i.size, i.bytes)) = some (some (.pointer none), 1, 8) := by kernel_rfl
theorem info_ref : (Tryd.prog.info? 66).map (fun i => (i.zero, i.size, i.bytes)) = some (some (.pointer none), 1, 8) := by kernel_rfl

theorem lawMade_close {w W3 w4 w5 w6 : World} {wb : Nat} {col : Nat → Nat} {Ts : List Tbl} {s : Nat} {ks : List Int} {tv rv lv ov tv' rv' : Value} {ls rws : List Value} {bt g4 c4 g5 g6 : Nat} {n6 k6 n5 k5 : Nat} (h : WorldOK w wb col Ts s)
    (hb : BookAt w wb [tv, rv, lv, ov] [Ts.map Tbl.pt, Ts.map Tbl.pr, ls, rws]) (hc : ∀ v ∈ [tv, rv, lv, ov], ∀ g, v.ownBlock = some g → col g = 2) (kl : ∀ i (h : i < ls.length), KeptRow w (Kept col w) i ls[i]) (kr : ∀ i (h : i < rws.length), KeptRows w (Kept col w) i rws[i])
    (hll : ls.length % 4 = 0 ∧ rws.length % 4 = 0 ∧ ls.length ≤ 4000 * s ∧ rws.length ≤ 4 * s) (hS : FrS (fun _ => False) w W3) (hg : GoodK ks) (hTab : TabOK W3 (fun b => w.heap.size < b ∧ b < W3.heap.size) bt ks []) (b4 : Below W3.heap.size W3 w4)
    (o4 : w4.ownsRow 0 3 1 (.slice (some ⟨g4, 0, none⟩) ks.length c4) ks.length (ks.map (Value.int .i64))) (e4 : g4 = W3.heap.size) (f5 : Fr (wb :: tv.ownBlock.toList) w4 w5) (a5 : tv.ownBlock = some g5 ∨ g5 = w4.heap.size + 1) (l5 : g5 < w5.heap.size)
    (f6 : Fr (wb :: rv.ownBlock.toList) (w5.alloc (.cells #[.slice (some ⟨g4, 0, none⟩) ks.length c4, .slice none 0 0] 84)) w6) (a6 : rv.ownBlock = some g6 ∨ g6 = w5.heap.size + 2)
    (hv5 : tv' = .slice (some ⟨g5, 0, none⟩) n5 k5) (hv6 : rv' = .slice (some ⟨g6, 0, none⟩) n6 k6)
    (hb6 : BookAt w6 wb [tv', rv', lv, ov] [Ts.map Tbl.pt ++ [.pointer (some ⟨bt, 0, none⟩)], Ts.map Tbl.pr ++ [.pointer (some ⟨w5.heap.size, 0, none⟩)], ls, rws]) :
    ∃ col', WorldOK w6 wb col' (Ts ++ [⟨bt, w5.heap.size, ks, []⟩]) (s + 1) ∧ (∀ b, b < w.heap.size → col' b = col b) ∧ FrS (fun b => col b ≠ 0) w w6 := by
  obtain ⟨l4, r4, lb, rb⟩ := hll
  have z3 := hS.size
  have z4 := b4.size
  have z5 := f5.size
  have z6 : w5.heap.size + 1 ≤ w6.heap.size := by have := f6.size; simpa using this
  have lg4 : g4 < w4.heap.size := (o4.lt g4 rfl).2
  have hwb : wb < w.heap.size := hb.lt wb (.inl rfl)
  have ltv : ∀ g, tv.ownBlock = some g → g < w.heap.size ∧ col g = 2 := fun g e => ⟨hb.lt g (.inr ⟨tv, by simp, e⟩), hc tv (by simp) g e⟩
  have lrv : ∀ g, rv.ownBlock = some g → g < w.heap.size ∧ col g = 2 := fun g e => ⟨hb.lt g (.inr ⟨rv, by simp, e⟩), hc rv (by simp) g e⟩
  have k5' : ∀ b, b < w4.heap.size → b ≠ wb → tv.ownBlock ≠ some b → w5.heap[b]? = w4.heap[b]? := fun b hb h1 h2 => f5.block b hb (by simp [h1, h2])
  have k6' : ∀ b, b < w5.heap.size → b ≠ wb → rv.ownBlock ≠ some b → w6.heap[b]? = w5.heap[b]? := fun b hb h1 h2 => (f6.block b (by simp; omega) (by simp [h1, h2])).trans (Below.heap_alloc _ _ _ hb)
  have old : ∀ b, b < w.heap.size → col b ≠ 2 → w6.heap[b]? = w.heap[b]? := fun b hlt hn => by
    have n1 : b ≠ wb := fun e => hn (by rw [e]; exact h.wbc)
    rw [k6' b (by omega) n1 (fun e => hn (lrv b e).2), k5' b (by omega) n1 (fun e => hn (ltv b e).2), b4.block b (by omega), hS.block b hlt (fun h => h)]
  have fresh : ∀ b, w.heap.size ≤ b → b < w4.heap.size → w6.heap[b]? = w4.heap[b]? := fun b h1 h2 => by
    rw [k6' b (by omega) (by omega) (fun e => by have := (lrv b e).1; omega), k5' b h2 (by omega) (fun e => by have := (ltv b e).1; omega)]
  have hg5 : g5 < w.heap.size ∧ col g5 = 2 ∨ w.heap.size ≤ g5 ∧ g5 = w4.heap.size + 1 := by
    rcases a5 with e | e
    · exact .inl (ltv g5 e)
    · exact .inr ⟨by omega, e⟩
  have hg6 : g6 < w.heap.size ∧ col g6 = 2 ∨ w.heap.size ≤ g6 ∧ g6 = w5.heap.size + 2 := by
    rcases a6 with e | e
    · exact .inl (lrv g6 e)
    · exact .inr ⟨by omega, e⟩
  have kept : ∀ b, Kept col w b → Kept (fun b => if b < w.heap.size then col b else if b = g5 ∨ b = g6 then 2 else 3 + Ts.length) w6 b := fun b hb => ⟨by show (if b < w.heap.size then col b else _) = 1; rw [if_pos hb.2]; exact hb.1, by have := hb.2; omega⟩
  have keptB : ∀ b, Kept col w b → w6.heap[b]? = w.heap[b]? := fun b hb => old b hb.2 (by rw [hb.1]; omega)
  refine ⟨fun b => if b < w.heap.size then col b else if b = g5 ∨ b = g6 then 2 else 3 + Ts.length, ⟨?_, ⟨tv', rv', lv, ov, ls, rws, by simpa [Tbl.pt, Tbl.pr] using hb6, ?_, fun j hj => (kl j hj).keep kept keptB, fun j hj => (kr j hj).keep kept keptB, l4, r4, by omega, by omega⟩, ?_, by have := h.few; simp; omega⟩, fun b hlt => if_pos hlt, ?_⟩
  · show (if wb < w.heap.size then col wb else _) = 2
    rw [if_pos hwb]; exact h.wbc
  · intro u hu g hgu
    show (if g < w.heap.size then col g else if g = g5 ∨ g = g6 then 2 else 3 + Ts.length) = 2
    simp only [List.mem_cons, List.not_mem_nil, or_false] at hu
    rcases hu with rfl | rfl | rfl | rfl
    · rw [hv5] at hgu
      simp only [Value.ownBlock, Option.some.injEq] at hgu
      subst hgu
      rcases hg5 with ⟨e1, e2⟩ | ⟨e1, _⟩
      · rw [if_pos e1]; exact e2
      · rw [if_neg (by omega), if_pos (.inl rfl)]
    · rw [hv6] at hgu
      simp only [Value.ownBlock, Option.some.injEq] at hgu
      subst hgu
      rcases hg6 with ⟨e1, e2⟩ | ⟨e1, _⟩
      · rw [if_pos e1]; exact e2
      · rw [if_neg (by omega), if_pos (.inr rfl)]
    · rw [if_pos (hb.lt g (.inr ⟨u, by simp, hgu⟩))]; exact hc u (by simp) g hgu
    · rw [if_pos (hb.lt g (.inr ⟨u, by simp, hgu⟩))]; exact hc u (by simp) g hgu
  · intro j hj
    by_cases hlt : j < Ts.length
    · rw [List.getElem_append_left hlt]
      obtain ⟨p1, p2, p3⟩ := h.tabs j hlt
      refine ⟨p1.keep (by omega) (fun k hk hs => ?_) (fun k hk hs => old k hk (by rw [hs]; omega)), p2, p3⟩
      show (if k < w.heap.size then col k else _) = 3 + j
      rw [if_pos hk]; exact hs
    · have hje : j = Ts.length := by simp at hj; omega
      subst hje
      rw [List.getElem_append_right (Nat.le_refl _)]
      simp only [Nat.sub_self, List.getElem_cons_zero]
      have colN : ∀ b, w.heap.size ≤ b → b ≠ g5 → b ≠ g6 → (if b < w.heap.size then col b else if b = g5 ∨ b = g6 then 2 else 3 + Ts.length) = 3 + Ts.length := fun b h1 h2 h3 => by rw [if_neg (by omega), if_neg (by simp [h2, h3])]
      refine ⟨⟨fun b => w.heap.size < b ∧ b < W3.heap.size, fun b => b = w5.heap.size ∨ b = g4, hTab.keep (fun _ h => h) (fun k hk ht => ?_), ⟨[], .slice (some ⟨g4, 0, none⟩) ks.length c4, .slice none 0 0, ⟨?_, Nat.zero_le _, ?_, ⟨World.ownsRow_nil _ _ _ _, by simp⟩⟩, rfl, ?_⟩, ?_, ?_, ?_⟩, hg, ⟨by simp, by simp⟩⟩
      · rw [fresh k (by omega) (by omega), b4.block k hk]
      · rw [f6.block w5.heap.size (by simp) (by
          simp only [List.mem_cons, Option.mem_toList, not_or]
          exact ⟨by omega, fun e => by have := (lrv _ e).1; omega⟩)]
        exact heap_alloc_new w5 _
      · exact own_keep2 o4 (fun g hgg => by
          simp only [Value.ownBlock, Option.some.injEq] at hgg
          subst hgg
          exact fresh g4 (by omega) lg4)
      · intro k hk
        rcases hk with e | e | e | ⟨p, hp, _⟩
        · exact .inl e
        · simp only [Value.ownBlock, Option.some.injEq] at e; exact .inr e.symm
        · cases e
        · cases hp
      · intro k hk
        refine ⟨colN k (by omega) ?_ ?_, by omega⟩
        · rcases hg5 with ⟨e1, _⟩ | ⟨_, e1⟩ <;> omega
        · rcases hg6 with ⟨e1, _⟩ | ⟨_, e1⟩ <;> omega
      · intro k hk
        rcases hk with e | e
        · refine ⟨colN k (by omega) ?_ ?_, by omega⟩
          · omega
          · rcases hg6 with ⟨e1, _⟩ | ⟨_, e1⟩ <;> omega
        · refine ⟨colN k (by omega) ?_ ?_, by omega⟩
          · rcases hg5 with ⟨e1, _⟩ | ⟨_, e1⟩ <;> omega
          · rcases hg6 with ⟨e1, _⟩ | ⟨_, e1⟩ <;> omega
      · intro k hk hk'
        rcases hk' with e | e <;> omega
  · refine ⟨f6.os.trans (f5.os.trans (b4.os.trans hS.os)), f6.tape.trans (f5.tape.trans (b4.tape.trans hS.tape)), f6.output.trans (f5.output.trans (b4.output.trans hS.output)), by omega, fun b hlt hn => old b hlt (by simp at hn; omega)⟩

set_option maxRecDepth 100000 in
set_option maxHeartbeats 2000000 in
theorem made_good (wb : Nat) (col : Nat → Nat) (Ts : List Tbl) (s : Nat) (ks : List Int) (ra : Option Addr) (cap : Nat) (w : World) (hE : ErrType w) (h : WorldOK w wb col Ts s) (hs : s ≤ 9000000) (hks : KindsA w ra ks) (hl : ks.length ≤ 9000000) (hf : (schemaFault ks).1 = 0) :
    Calls Tryd.prog 19 #[.pointer (some ⟨wb, 0, none⟩), .slice ra ks.length cap] w (MadePost wb col Ts s ks w) := by
  have HW : Hid (WorldOK w wb col Ts s) := h
  have HKA : Hid (KindsA w ra ks) := hks
  clear h hks
  have hq : ∀ (W : World) (a : Option Addr) (n c n' c' : Nat), (binOp .eql 24 (.slice a n c) (.slice none n' c')).run Tryd.prog W = .ok (.bool (a.isNone)) W := fun W a n c n' c' => Lib.run_eql_slice_nil W _ _ a n c n' c' Tryd.underlying24
  go_enter Tryd.func19, Tryd.ntmps19
  go_wp2_with fail
  refine (numbers_any ra cap ks w HKA.out hl).mono ?_
  rintro e w1 ⟨rfl, hA, b1, _⟩
  have z1 : w.heap.size < w1.heap.size := (Array.getElem?_eq_some_iff.1 hA).1
  have HA : Hid (w1.heap[w.heap.size]? = some (.cells (lentI ks).toArray 3 (0, 0))) := hA
  clear hA
  have i0 : (0 : Int) ≤ (ks.length : Int) := by omega
  have i1 : (ks.length : Int) ≤ (ks.length : Int) + 2 := by omega
  have hra : ra = none ∨ ∃ a, ra = some a := by cases ra; exact .inl rfl; exact .inr ⟨_, rfl⟩
  rcases hra with rfl | ⟨a, rfl⟩
  rotate_left
  · go_wp2_with fail
    refine (tabNews_any (some ⟨w.heap.size, 0, none⟩) (ks.length + 2) ks w1 (hE.below b1) (.inr ⟨_, rfl, lentI_kinds HA.out⟩) hl).mono ?_
    rintro e w2 ⟨tvv, ev, rfl, herr, b2, hbad, hgood⟩
    have HBAD : Hid ((schemaFault ks).1 ≠ 0 → tvv = none) := hbad
    have HGOOD : Hid ((schemaFault ks).1 = 0 → ∃ bt, tvv = some ⟨bt, 0, none⟩ ∧ TabOK w2 (fun b => w1.heap.size ≤ b ∧ b < w2.heap.size) bt ks []) := hgood
    clear hbad hgood
    have z2 := b2.size
    go_wp2_with fail
    refine (lawFault_any ev _ _ w2 herr).mono ?_
    rintro e _ ⟨rfl, n, rfl⟩
    have hold : ∀ k, k < w.heap.size → (w2.drewN n).heap[k]? = w.heap[k]? := fun k hk => (b2.block k (by omega)).trans (b1.block k hk)
    have HOLD : Hid (∀ k, k < w.heap.size → (w2.drewN n).heap[k]? = w.heap[k]?) := hold
    clear hold
    go_wp2_with fail
    refine (refSchema_any _ cap ks (w2.drewN n) (HKA.out.keep (fun k hk => HOLD.out k hk)) hl).mono ?_
    rintro e _ ⟨rfl, rfl⟩
    go_wp2_with fail
    refine (numbers_any _ cap ks (w2.drewN n) (HKA.out.keep (fun k hk => HOLD.out k hk)) hl).mono ?_
    rintro e w3 ⟨rfl, hW, b3, _⟩
    have z3 : w2.heap.size < w3.heap.size := (Array.getElem?_eq_some_iff.1 hW).1
    have HWn : Hid (w3.heap[w2.heap.size]? = some (.cells (lentI ks).toArray 3 (0, 0))) := hW
    have HA3 : Hid (w3.heap[w.heap.size]? = some (.cells (lentI ks).toArray 3 (0, 0))) := (b3.block _ (show w.heap.size < w2.heap.size by omega)).trans ((b2.block _ z1).trans HA.out)
    clear hW
    go_wp2_with fail
    go_loopw [14, 15] (fun o j wr => ∃ k : Nat, k ≤ ks.length + 2 ∧ o = .bool true ∧ j = .int .i64 k ∧ Fr [w.heap.size] w3 wr ∧ ∃ cur : Array Value, wr.heap[w.heap.size]? = some (.cells cur 3 (0, 0)) ∧ cur.size = ks.length + 2 ∧ ∀ x, k ≤ x → cur[x]? = (lentI ks)[x]?) (fun _ j _ => ks.length + 2 - (intOf j).toNat)
    case atStart => exact ⟨0, Nat.zero_le _, rfl, rfl, Fr.refl _ _, _, HA3.out, by simp [lentI_length], fun x _ => by simp⟩
    case round =>
      obtain ⟨k, hk, rfl, rfl, hF, cur, hcur, hsz, hc⟩ := hrel
      by_cases hlt : k < ks.length + 2
      · obtain ⟨z, hz⟩ := lentI_at ks k hlt
        have x0 : wr.cell? ⟨w.heap.size, k, none⟩ = some (.int .i64 z) := by rw [cell_of_row _ _ _ _ _ _ hcur, hc _ (Nat.le_refl _)]; exact hz
        have x1 : wr.cell? ⟨w2.heap.size, k, none⟩ = some (.int .i64 z) := (hF.cell w2.heap.size k z3 (by simp; omega)).trans (by rw [cell_of_row _ _ _ _ _ _ HWn.out]; simpa using hz)
        have f0 : wr.frozen? ⟨w.heap.size, k, none⟩ = false := by simp [World.frozen?, hcur]
        have HCUR : Hid (wr.heap[w.heap.size]? = some (.cells cur 3 (0, 0))) := hcur
        have HC : Hid (∀ x, k ≤ x → cur[x]? = (lentI ks)[x]?) := hc
        have i0 : (0 : Int) ≤ (k : Int) := by omega
        have i1 : (k : Int) < (ks.length : Int) + 2 := by omega
        clear hcur hc hz
        go_wp2_with fail
        go_quiet (fail)
        go_wp2
        go_roundw
        case rel =>
          refine ⟨k + 1, by omega, by simp, by go_num, (hF.drewN _).setCell (p := ⟨w.heap.size, _, none⟩) (.inl (by simp)) _, _, heap_setCell_same _ _ _ _ _ _ HCUR.out, by simpa using hsz, fun x hx => ?_⟩
          rw [Array.getElem?_setIfInBounds_ne (by omega)]
          exact HC.out x (by omega)
        case measure => simp [intOf]; omega
      · have i1 : ¬ (k : Int) < (ks.length : Int) + 2 := by omega
        have hsame : FrS (fun _ => False) w wr := by
          refine ⟨hF.os.trans (b3.os.trans (b2.os.trans b1.os)), hF.tape.trans (b3.tape.trans (b2.tape.trans b1.tape)), hF.output.trans (b3.output.trans (b2.output.trans b1.output)), by have := hF.size; omega, fun b hb _ => ?_⟩
          exact (hF.block b (by omega) (by simp; omega)).trans ((b3.block b (show b < w2.heap.size by omega)).trans (HOLD.out b hb))
        have HS : Hid (FrS (fun _ => False) w wr) := hsame
        clear hc hcur hsame
        obtain ⟨bt, e1, hTab⟩ := HGOOD.out hf
        subst e1
        obtain ⟨e2, hg⟩ := schemaFault_zero hf
        have e3 : (schemaFault ks).1 = 0 := hf
        obtain ⟨W3, rfl⟩ : ∃ W3, W3 = wr := ⟨wr, rfl⟩
        obtain ⟨tv, rv, lv, ov, ls, rws, hb, hcc, kl, kr, l4, r4, lb, rb⟩ := HW.out.ex
        have hfew := HW.out.few
        have hsame := HS.out
        have hB3 : BookAt W3 wb [tv, rv, lv, ov] [Ts.map Tbl.pt, Ts.map Tbl.pr, ls, rws] := hb.keep (fun k hk => hsame.block k (hb.lt k hk) (fun h => h))
        obtain ⟨ta', tc, htv⟩ : ∃ a cp, tv = .slice a Ts.length cp := by
          rcases (hB3.own 0 (by simp) (by simp)).2 with ⟨h1, h2⟩ | ⟨gg, cp, _, h1, _⟩
          · exact ⟨none, 0, by have h3 : Ts.length = 0 := by simpa using h2
                               rw [h3]; exact h1⟩
          · exact ⟨_, cp, by simpa using h1⟩
        obtain ⟨ra', rc, hrv⟩ : ∃ a cp, rv = .slice a Ts.length cp := by
          rcases (hB3.own 1 (by simp) (by simp)).2 with ⟨h1, h2⟩ | ⟨gg, cp, _, h1, _⟩
          · exact ⟨none, 0, by have h3 : Ts.length = 0 := by simpa using h2
                               rw [h3]; exact h1⟩
          · exact ⟨_, cp, by simpa using h1⟩
        subst htv hrv
        have hwb3 : wb < W3.heap.size := hB3.lt wb (.inl rfl)
        have B3 : Hid (BookAt W3 wb [.slice ta' Ts.length tc, .slice ra' Ts.length rc, lv, ov] [Ts.map Tbl.pt, Ts.map Tbl.pr, ls, rws]) := hB3
        obtain ⟨a0, haa, halt, hsrc⟩ : ∃ a0, some a = some a0 ∧ a0.block < W3.heap.size ∧ ∀ j v, (ks.map (Value.int .i64))[j]? = some v → W3.cell? (a0.add j) = some v := by
          rcases (HKA.out.keep (w' := W3) (fun k hk => hsame.block k hk (fun h => h))).src with h0 | h0
          · have := hg.one; omega
          · exact h0
        cases haa
        have HSRC : Hid (∀ j v, (ks.map (Value.int .i64))[j]? = some v → W3.cell? (a.add j) = some v) := hsrc
        have zF := hF.size
        have HTAB3 : Hid (TabOK W3 (fun b => w.heap.size < b ∧ b < W3.heap.size) bt ks []) := hTab.keep (fun k hk => ⟨by omega, by omega⟩) (fun k hk ht => (hF.block k (by omega) (by simp; omega)).trans (b3.block k hk))
        have c03 : W3.cell? ⟨wb, 0, none⟩ = some (.slice ta' Ts.length tc) := by rw [cell_of_row _ _ _ _ _ _ hB3.blk]; rfl
        have c13 : W3.cell? ⟨wb, 1, none⟩ = some (.slice ra' Ts.length rc) := by rw [cell_of_row _ _ _ _ _ _ hB3.blk]; rfl
        have f03 : W3.frozen? ⟨wb, 0, none⟩ = false := by simp [World.frozen?, hB3.blk]
        have f13 : W3.frozen? ⟨wb, 1, none⟩ = false := by simp [World.frozen?, hB3.blk]
        have HKK : Hid (0 < ks.length ∧ ks.length ≤ 6) := ⟨by have := hg.one; omega, hg.six⟩
        have HTS : Hid (Ts.length ≤ 9000002) := by unfold Hid; omega
        obtain ⟨j0, hj0, hy0, hy1, hy2⟩ := info_parts info_int
        obtain ⟨p0, hp0, hpz, hp1, hp2⟩ := info_parts info_tab
        obtain ⟨r0, hr0, hrz, hr1, hr2⟩ := info_parts info_ref
        have O3 : Hid (W3.ownsRow 0 38 1 (.slice ta' Ts.length tc) Ts.length (Ts.map Tbl.pt)) := by
          have h := hB3.own 0 (by simp) (by simp)
          simpa [Hid, fty] using h
        have nb3 : some wb ≠ (Value.slice ta' Ts.length tc).ownBlock := fun e => by
          obtain ⟨cs, fr, hc⟩ := own_ty O3.out e.symm
          rw [hB3.blk] at hc
          simp at hc
        have HKL : Hid (∀ i (h : i < ls.length), KeptRow w (Kept col w) i ls[i]) := kl
        have HKR : Hid (∀ i (h : i < rws.length), KeptRows w (Kept col w) i rws[i]) := kr
        have HCC : Hid (∀ v ∈ [Value.slice ta' Ts.length tc, .slice ra' Ts.length rc, lv, ov], ∀ g, v.ownBlock = some g → col g = 2) := hcc
        have HLL : Hid (ls.length % 4 = 0 ∧ rws.length % 4 = 0 ∧ ls.length ≤ 4000 * s ∧ rws.length ≤ 4 * s) := ⟨l4, r4, lb, rb⟩
        have HB0 : Hid (BookAt w wb [.slice ta' Ts.length tc, .slice ra' Ts.length rc, lv, ov] [Ts.map Tbl.pt, Ts.map Tbl.pr, ls, rws]) := hb
        have HFE : Hid (Ts.length ≤ s + 1) := hfew
        clear hB3 hsrc hTab hsame hb hcc kl kr l4 r4 lb rb hfew
        go_wp2_with (first
          | (at_builtin; refine wpList_append_lies _ rfl _ _ _ rfl 0 3 j0 _ 1 8 Tryd.underlying24 hj0 hy0 hy1 hy2 rfl (by omega) (.slice none 0 0) 0 [] (by rfl) (World.ownsRow_nil _ _ _ _) a ks.length cap (ks.map (Value.int .i64)) (by rfl) (by simp) HSRC.out (by simp [Value.oneCell']) HKK.out.1 (by have := HKK.out.2; unfold maxLen; omega) (by have := HKK.out.2; omega) (by omega) W3.heap.size rfl ?_
             intro g4 c4 w4 hown4 hgrow4 hat4 hlt4
             have hb4 : Below W3.heap.size W3 w4 := below_grown hgrow4
             have z4 := hb4.size
             have OK4 : Hid (w4.ownsRow 0 3 1 (.slice (some ⟨g4, 0, none⟩) ks.length c4) ks.length (ks.map (Value.int .i64))) := by unfold Hid; simpa using hown4
             have HAT4 : Hid (g4 = W3.heap.size) := by
               rcases hat4 with x | x
               · cases x
               · exact x
             have B4 : Hid (BookAt w4 wb [.slice ta' Ts.length tc, .slice ra' Ts.length rc, lv, ov] [Ts.map Tbl.pt, Ts.map Tbl.pr, ls, rws]) := B3.out.below hb4
             have hwb4 : wb < w4.heap.size := by omega
             have c04 : w4.cell? ⟨wb, 0, none⟩ = some (.slice ta' Ts.length tc) := (hb4.cell (p := ⟨wb, 0, none⟩) hwb3).trans c03
             have f04 : w4.frozen? ⟨wb, 0, none⟩ = false := (hb4.frozen (p := ⟨wb, 0, none⟩) hwb3).trans f03
             have f14 : w4.frozen? ⟨wb, 1, none⟩ = false := (hb4.frozen (p := ⟨wb, 1, none⟩) hwb3).trans f13
             have c14 : w4.cell? ⟨wb, 1, none⟩ = some (.slice ra' Ts.length rc) := (hb4.cell (p := ⟨wb, 1, none⟩) hwb3).trans c13
             have O4 : Hid (w4.ownsRow 0 38 1 (.slice ta' Ts.length tc) Ts.length (Ts.map Tbl.pt)) := ownsRow_below O3.out hb4
             clear hown4 hgrow4 hat4)
          | (at_builtin; refine wpList_append_lies _ rfl _ _ _ rfl 0 38 p0 _ 1 8 Tryd.underlying59 hp0 hpz hp1 hp2 rfl (by omega) (.slice ta' Ts.length tc) Ts.length (Ts.map Tbl.pt) (by rfl) (O4.out.alloc _) ⟨w4.heap.size, 0, none⟩ 1 1 [.pointer (some ⟨bt, 0, none⟩)] (by rfl) (by rfl) (World.news_of_block (cs := #[.pointer (some ⟨bt, 0, none⟩)]) (t := 38) (fr := (0, 0)) (heap_alloc_new w4 _)) (by simp [Value.oneCell']) (by omega) (by have := HTS.out; unfold maxLen; omega) (by have := HTS.out; omega) (by omega) (w4.heap.size + 1) (by simp) ?_
             intro g5 k5 w5 hown5 hgrow5 hat5 hlt5
             have q51 : w5.cell? ⟨wb, 0, none⟩ = some (.slice ta' Ts.length tc) := (hgrow5.cell_far ⟨wb, 0, none⟩ (by simp; omega) nb3).trans ((cell_alloc w4 _ wb 0 hwb4).trans c04)
             have q52 : w5.frozen? ⟨wb, 0, none⟩ = false := (hgrow5.frozen_far ⟨wb, 0, none⟩ (by simp; omega) nb3).trans ((frozen_alloc w4 _ wb 0 hwb4).trans f04)
             have PB5 : Hid (BookAt (w5.setCell ⟨wb, 0, none⟩ (.slice (some ⟨g5, 0, none⟩) (Ts.length + 1) k5)) wb [.slice (some ⟨g5, 0, none⟩) (Ts.length + 1) k5, .slice ra' Ts.length rc, lv, ov] [Ts.map Tbl.pt ++ [.pointer (some ⟨bt, 0, none⟩)], Ts.map Tbl.pr, ls, rws] ∧ Fr (wb :: (Value.slice ta' Ts.length tc).ownBlock.toList) w4 (w5.setCell ⟨wb, 0, none⟩ (.slice (some ⟨g5, 0, none⟩) (Ts.length + 1) k5))) := by
               have h := B4.out.push (k := 0) (x := .pointer (some ⟨bt, 0, none⟩)) (gg := g5) (cp := k5) (w3 := w5) (by simp) (by simp) hgrow5 (by simpa [fty] using hown5) hat5
               simpa [Hid] using h
             have q53 : w5.cell? ⟨wb, 1, none⟩ = some (.slice ra' Ts.length rc) := (hgrow5.cell_far ⟨wb, 1, none⟩ (by simp; omega) nb3).trans ((cell_alloc w4 _ wb 1 hwb4).trans c14)
             have q54 : w5.frozen? ⟨wb, 1, none⟩ = false := (hgrow5.frozen_far ⟨wb, 1, none⟩ (by simp; omega) nb3).trans ((frozen_alloc w4 _ wb 1 hwb4).trans f14)
             have HAT5 : Hid ((Value.slice ta' Ts.length tc).ownBlock = some g5 ∨ g5 = w4.heap.size + 1) := hat5
             have HS5 : (w5.setCell ⟨wb, 0, none⟩ (.slice (some ⟨g5, 0, none⟩) (Ts.length + 1) k5)).heap.size = w5.heap.size := setCell_size _ _ _
             have z5 : w4.heap.size + 1 ≤ w5.heap.size := by have := hgrow5.size; simpa using this
             have O5 : Hid ((w5.setCell ⟨wb, 0, none⟩ (.slice (some ⟨g5, 0, none⟩) (Ts.length + 1) k5)).ownsRow 0 66 1 (.slice ra' Ts.length rc) Ts.length (Ts.map Tbl.pr)) := by
               have h := PB5.out.1.own 1 (by simp) (by simp)
               simpa [Hid, fty] using h
             have nb5 : some wb ≠ (Value.slice ra' Ts.length rc).ownBlock := fun e => by
               obtain ⟨cs, fr, hc⟩ := own_ty O5.out e.symm
               rw [PB5.out.1.blk] at hc
               simp at hc
             have HL5 : Hid (g5 < w5.heap.size) := hlt5
             clear hown5 hgrow5 hat5)
          | (at_builtin; refine wpList_append_lies _ rfl _ _ _ rfl 0 66 r0 _ 1 8 Tryd.underlying60 hr0 hrz hr1 hr2 rfl (by omega) (.slice ra' Ts.length rc) Ts.length (Ts.map Tbl.pr) (by rfl) ((O5.out.alloc _).alloc _) ⟨w5.heap.size + 1, 0, none⟩ 1 1 [.pointer (some ⟨w5.heap.size, 0, none⟩)] (by rfl) (by rfl) (World.news_of_block (cs := #[.pointer (some ⟨w5.heap.size, 0, none⟩)]) (t := 66) (fr := (0, 0)) (new_at (by simp) _)) (by simp [Value.oneCell']) (by omega) (by have := HTS.out; unfold maxLen; omega) (by have := HTS.out; omega) (by omega) (w5.heap.size + 2) (by simp) ?_
             intro g6 k6 w6 hown6 hgrow6 hat6 hlt6
             have q61 : w6.cell? ⟨wb, 1, none⟩ = some (.slice ra' Ts.length rc) := (hgrow6.cell_far ⟨wb, 1, none⟩ (by simp; omega) nb5).trans ((cell_alloc _ _ wb 1 (by simp; omega)).trans ((cell_alloc _ _ wb 1 (by rw [setCell_size]; omega)).trans (by rw [cell_of_row _ _ _ _ _ _ PB5.out.1.blk]; rfl)))
             have q62 : w6.frozen? ⟨wb, 1, none⟩ = false := (hgrow6.frozen_far ⟨wb, 1, none⟩ (by simp; omega) nb5).trans ((frozen_alloc _ _ wb 1 (by simp; omega)).trans ((frozen_alloc _ _ wb 1 (by rw [setCell_size]; omega)).trans (by simp [World.frozen?, PB5.out.1.blk])))
             have PB6 : Hid (BookAt (w6.setCell ⟨wb, 1, none⟩ (.slice (some ⟨g6, 0, none⟩) (Ts.length + 1) k6)) wb [.slice (some ⟨g5, 0, none⟩) (Ts.length + 1) k5, .slice (some ⟨g6, 0, none⟩) (Ts.length + 1) k6, lv, ov] [Ts.map Tbl.pt ++ [.pointer (some ⟨bt, 0, none⟩)], Ts.map Tbl.pr ++ [.pointer (some ⟨w5.heap.size, 0, none⟩)], ls, rws] ∧ Fr (wb :: (Value.slice ra' Ts.length rc).ownBlock.toList) ((w5.setCell ⟨wb, 0, none⟩ (.slice (some ⟨g5, 0, none⟩) (Ts.length + 1) k5)).alloc (.cells #[.slice (some ⟨g4, 0, none⟩) ks.length c4, .slice none 0 0] 84)) (w6.setCell ⟨wb, 1, none⟩ (.slice (some ⟨g6, 0, none⟩) (Ts.length + 1) k6))) := by
               have h := (PB5.out.1.below ((Below.refl _ _).alloc (Nat.le_refl _) (.cells #[.slice (some ⟨g4, 0, none⟩) ks.length c4, .slice none 0 0] 84))).push (k := 1) (x := .pointer (some ⟨w5.heap.size, 0, none⟩)) (gg := g6) (cp := k6) (w3 := w6) (by simp) (by simp) hgrow6 (by simpa [fty] using hown6) (hat6.imp_right (fun e => e.trans (by simp)))
               simpa [Hid] using h
             have HAT6 : Hid ((Value.slice ra' Ts.length rc).ownBlock = some g6 ∨ g6 = w5.heap.size + 2) := hat6
             clear hown6 hgrow6 hat6))
        have hcl := lawMade_close HW.out HB0.out HCC.out HKL.out HKR.out HLL.out HS.out hg (HTAB3.out) hb4 OK4.out HAT4.out PB5.out.2 HAT5.out (by rw [HS5]; exact HL5.out) PB6.out.2 (by rw [HS5]; exact HAT6.out) rfl rfl (by rw [HS5]; exact PB6.out.1)
        obtain ⟨col', a1, a2, a3⟩ := hcl
        rw [HS5] at a1
        go_ret
        exact ⟨by simp, col', bt, w5.heap.size, by rw [if_pos hf]; exact a1, a2, a3⟩
  · exfalso
    obtain ⟨_, hg⟩ := schemaFault_zero hf
    rcases HKA.out with h | ⟨g, zo, h, _⟩
    · have := hg.one
      rw [h] at this
      simp at this
    · cases h

end Go.Proofs.YtcconhgbefhdeaaDoor
