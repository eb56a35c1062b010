import Derived.Test.YtcconhgbefhdeaaDoorScn
namespace Go.Proofs.YtcconhgbefhdeaaDoor
open Go.RowKit
attribute [local go_sem ↓] Go.wp_at_zero Go.wp_at_succ

theorem schemaFault_zero {ks : List Int} (h : (schemaFault ks).1 = 0) : schemaFault ks = (0, 0) ∧ GoodK ks := by
  unfold schemaFault at h ⊢
  split at h
  · simp at h
  · rename_i hb
    split at h
    · simp at h
    · rename_i h2
      exact ⟨if_neg h2, ⟨by omega, by omega, badKind_none ks 0 hb⟩⟩
theorem schemaFault_one {ks : List Int} (h : (schemaFault ks).1 ≠ 0) : (schemaFault ks).1 = 1 := by
  unfold schemaFault at h ⊢
  split at h
  · rfl
  · split at h
    · rename_i h2; rw [if_pos h2]
    · simp at h

/-- What the program's New leaves. -/
def TabNews (ks : List Int) (w : World) (e : Ending) (w' : World) : Prop :=
  ∃ tvv ev, e = .returned (.tuple #[.pointer tvv, ev]) ∧ ErrIs w' ev (schemaFault ks).1 (schemaFault ks).2 ∧ Below w.heap.size w w' ∧ ((schemaFault ks).1 ≠ 0 → tvv = none) ∧
    ((schemaFault ks).1 = 0 → ∃ bt, tvv = some ⟨bt, 0, none⟩ ∧ TabOK w' (fun b => w.heap.size ≤ b ∧ b < w'.heap.size) bt ks [])

theorem tabNews_any (sa : Option Addr) (cap : Nat) (ks : List Int) (w : World) (hE : ErrType w) (hks : KindsAt w sa ks) (hl : ks.length ≤ 9000000) :
    Calls Tryd.prog 24 #[.slice sa ks.length cap] w (TabNews ks w) := by
  by_cases h0 : (schemaFault ks).1 = 0
  · obtain ⟨hz, hg⟩ := schemaFault_zero h0
    rcases hks with hn | ⟨g, rfl, hin⟩
    · have e2 := hg.one
      rw [hn] at e2
      simp at e2
    refine (tabNew_ok g cap ks w hin hg).mono ?_
    rintro e w' ⟨bt, rfl, h1, h2⟩
    exact ⟨_, _, rfl, .inl ⟨rfl, by rw [hz], by rw [hz]⟩, h2, fun h => absurd h0 h, fun _ => ⟨bt, rfl, h1⟩⟩
  · refine (new_bad sa cap ks w hE hks hl h0).mono ?_
    rintro e w' ⟨fb, rfl, h1, h2⟩
    exact ⟨_, _, rfl, .inr (by rw [schemaFault_one h0]; exact h1), h2, fun _ => rfl, fun h => absurd h h0⟩

theorem lentI_length (ks : List Int) : (lentI ks).length = ks.length + 2 := by simp [lentI]
theorem lentI_at (ks : List Int) (k : Nat) (h : k < ks.length + 2) : ∃ z, (lentI ks)[k]? = some (.int .i64 z) := by
  unfold lentI
  rw [List.getElem?_map, List.getElem?_eq_getElem (by simpa using h)]
  exact ⟨_, rfl⟩
theorem lentI_kinds {w : World} {g : Nat} {ks : List Int} (h : w.heap[g]? = some (.cells (lentI ks).toArray 3 (0, 0))) : KindsIn w g ks := fun i hi => by
  rw [cell_of_row _ _ _ _ _ _ h, List.getElem?_toArray, lentI, List.getElem?_map, List.getElem?_append_left hi, List.getElem?_eq_getElem hi]; rfl

/-- Nothing of ours turned. -/
theorem WorldOK.same {w w' : World} {wb : Nat} {col : Nat → Nat} {Ts : List Tbl} {s s' : Nat} (h : WorldOK w wb col Ts s) (hs : s ≤ s') (hF : FrS (fun _ => False) w w') : WorldOK w' wb (fun b => if b < w.heap.size then col b else 0) Ts s' := by
  obtain ⟨tv, rv, lv, ov, ls, rws, hb, hc, kl, kr, l4, r4, lb, rb⟩ := h.ex
  have blk : ∀ b, b < w.heap.size → w'.heap[b]? = w.heap[b]? := fun b hb => hF.block b hb (fun h => h)
  have hz := hF.size
  have kept : ∀ b, Kept col w b → Kept (fun b => if b < w.heap.size then col b else 0) w' b := fun b hb => ⟨by show (if b < w.heap.size then col b else 0) = 1; rw [if_pos hb.2]; exact hb.1, by have := hb.2; omega⟩
  refine ⟨?_, ⟨tv, rv, lv, ov, ls, rws, hb.keep (fun k hk => blk k (hb.lt k hk)), ?_, fun j hj => (kl j hj).keep kept (fun b hb => blk b hb.2), fun j hj => (kr j hj).keep kept (fun b hb => blk b hb.2), l4, r4, by omega, by omega⟩, ?_, by have := h.few; omega⟩
  · show (if wb < w.heap.size then col wb else 0) = 2
    rw [if_pos (hb.lt wb (.inl rfl))]; exact h.wbc
  · intro v hv g hg
    show (if g < w.heap.size then col g else 0) = 2
    rw [if_pos (hb.lt g (.inr ⟨v, hv, hg⟩))]; exact hc v hv g hg
  · intro j hj
    obtain ⟨p1, p2, p3⟩ := h.tabs j hj
    refine ⟨p1.keep hz (fun k hk hs => ?_) (fun k hk _ => blk k hk), p2, p3⟩
    show (if k < w.heap.size then col k else 0) = 3 + j
    rw [if_pos hk]; exact hs

/-- What made leaves. -/
def MadePost (wb : Nat) (col : Nat → Nat) (Ts : List Tbl) (s : Nat) (ks : List Int) (w : World) (e : Ending) (w' : World) : Prop :=
  e = .returned (.bool true) ∧ ∃ col' bt br, WorldOK w' wb col' (if (schemaFault ks).1 = 0 then Ts ++ [⟨bt, br, ks, []⟩] else Ts) (s + 1) ∧ (∀ b, b < w.heap.size → col' b = col b) ∧ FrS (fun b => col b ≠ 0) w w'

set_option maxRecDepth 100000 in
set_option maxHeartbeats 2000000 in
theorem made_bad (wb : Nat) (col : Nat → Nat) (Ts : List Tbl) (s : Nat) (ks : List Int) (ra : Option Addr) (cap : Nat) (w : World) (hE : ErrType w) (h : WorldOK w wb col Ts s) (hks : KindsA w ra ks) (hl : ks.length ≤ 9000000) (hf : (schemaFault ks).1 ≠ 0) :
    Calls Tryd.prog 19 #[.pointer (some ⟨wb, 0, none⟩), .slice ra ks.length cap] w (MadePost wb col Ts s ks w) := by
  have HW : Hid (WorldOK w wb col Ts s) := h
  have HKA : Hid (KindsA w ra ks) := hks
  clear h hks
  have hq : ∀ (W : World) (a : Option Addr) (n c n' c' : Nat), (binOp .eql 24 (.slice a n c) (.slice none n' c')).run Tryd.prog W = .ok (.bool (a.isNone)) W := fun W a n c n' c' => Lib.run_eql_slice_nil W _ _ a n c n' c' Tryd.underlying24
  go_enter Tryd.func19, Tryd.ntmps19
  go_wp2_with fail
  refine (numbers_any ra cap ks w HKA.out hl).mono ?_
  rintro e w1 ⟨rfl, hA, b1, _⟩
  have z1 : w.heap.size < w1.heap.size := (Array.getElem?_eq_some_iff.1 hA).1
  have HA : Hid (w1.heap[w.heap.size]? = some (.cells (lentI ks).toArray 3 (0, 0))) := hA
  clear hA
  have i0 : (0 : Int) ≤ (ks.length : Int) := by omega
  have i1 : (ks.length : Int) ≤ (ks.length : Int) + 2 := by omega
  have hra : ra = none ∨ ∃ a, ra = some a := by cases ra; exact .inl rfl; exact .inr ⟨_, rfl⟩
  rcases hra with rfl | ⟨a, rfl⟩
  rotate_left
  · go_wp2_with fail
    refine (tabNews_any (some ⟨w.heap.size, 0, none⟩) (ks.length + 2) ks w1 (hE.below b1) (.inr ⟨_, rfl, lentI_kinds HA.out⟩) hl).mono ?_
    rintro e w2 ⟨tvv, ev, rfl, herr, b2, hbad, hgood⟩
    have HBAD : Hid ((schemaFault ks).1 ≠ 0 → tvv = none) := hbad
    have HGOOD : Hid ((schemaFault ks).1 = 0 → ∃ bt, tvv = some ⟨bt, 0, none⟩ ∧ TabOK w2 (fun b => w1.heap.size ≤ b ∧ b < w2.heap.size) bt ks []) := hgood
    clear hbad hgood
    have z2 := b2.size
    go_wp2_with fail
    refine (lawFault_any ev _ _ w2 herr).mono ?_
    rintro e _ ⟨rfl, n, rfl⟩
    have hold : ∀ k, k < w.heap.size → (w2.drewN n).heap[k]? = w.heap[k]? := fun k hk => (b2.block k (by omega)).trans (b1.block k hk)
    have HOLD : Hid (∀ k, k < w.heap.size → (w2.drewN n).heap[k]? = w.heap[k]?) := hold
    clear hold
    go_wp2_with fail
    refine (refSchema_any _ cap ks (w2.drewN n) (HKA.out.keep (fun k hk => HOLD.out k hk)) hl).mono ?_
    rintro e _ ⟨rfl, rfl⟩
    go_wp2_with fail
    refine (numbers_any _ cap ks (w2.drewN n) (HKA.out.keep (fun k hk => HOLD.out k hk)) hl).mono ?_
    rintro e w3 ⟨rfl, hW, b3, _⟩
    have z3 : w2.heap.size < w3.heap.size := (Array.getElem?_eq_some_iff.1 hW).1
    have HWn : Hid (w3.heap[w2.heap.size]? = some (.cells (lentI ks).toArray 3 (0, 0))) := hW
    have HA3 : Hid (w3.heap[w.heap.size]? = some (.cells (lentI ks).toArray 3 (0, 0))) := (b3.block _ (show w.heap.size < w2.heap.size by omega)).trans ((b2.block _ z1).trans HA.out)
    clear hW
    go_wp2_with fail
    go_loopw [14, 15] (fun o j wr => ∃ k : Nat, k ≤ ks.length + 2 ∧ o = .bool true ∧ j = .int .i64 k ∧ Fr [w.heap.size] w3 wr ∧ ∃ cur : Array Value, wr.heap[w.heap.size]? = some (.cells cur 3 (0, 0)) ∧ cur.size = ks.length + 2 ∧ ∀ x, k ≤ x → cur[x]? = (lentI ks)[x]?) (fun _ j _ => ks.length + 2 - (intOf j).toNat)
    case atStart => exact ⟨0, Nat.zero_le _, rfl, rfl, Fr.refl _ _, _, HA3.out, by simp [lentI_length], fun x _ => by simp⟩
    case round =>
      obtain ⟨k, hk, rfl, rfl, hF, cur, hcur, hsz, hc⟩ := hrel
      by_cases hlt : k < ks.length + 2
      · obtain ⟨z, hz⟩ := lentI_at ks k hlt
        have x0 : wr.cell? ⟨w.heap.size, k, none⟩ = some (.int .i64 z) := by rw [cell_of_row _ _ _ _ _ _ hcur, hc _ (Nat.le_refl _)]; exact hz
        have x1 : wr.cell? ⟨w2.heap.size, k, none⟩ = some (.int .i64 z) := (hF.cell w2.heap.size k z3 (by simp; omega)).trans (by rw [cell_of_row _ _ _ _ _ _ HWn.out]; simpa using hz)
        have f0 : wr.frozen? ⟨w.heap.size, k, none⟩ = false := by simp [World.frozen?, hcur]
        have HCUR : Hid (wr.heap[w.heap.size]? = some (.cells cur 3 (0, 0))) := hcur
        have HC : Hid (∀ x, k ≤ x → cur[x]? = (lentI ks)[x]?) := hc
        have i0 : (0 : Int) ≤ (k : Int) := by omega
        have i1 : (k : Int) < (ks.length : Int) + 2 := by omega
        clear hcur hc hz
        go_wp2_with fail
        go_quiet (fail)
        go_wp2
        go_roundw
        case rel =>
          refine ⟨k + 1, by omega, by simp, by go_num, (hF.drewN _).setCell (p := ⟨w.heap.size, _, none⟩) (.inl (by simp)) _, _, heap_setCell_same _ _ _ _ _ _ HCUR.out, by simpa using hsz, fun x hx => ?_⟩
          rw [Array.getElem?_setIfInBounds_ne (by omega)]
          exact HC.out x (by omega)
        case measure => simp [intOf]; omega
      · have i1 : ¬ (k : Int) < (ks.length : Int) + 2 := by omega
        have hsame : FrS (fun _ => False) w wr := by
          refine ⟨hF.os.trans (b3.os.trans (b2.os.trans b1.os)), hF.tape.trans (b3.tape.trans (b2.tape.trans b1.tape)), hF.output.trans (b3.output.trans (b2.output.trans b1.output)), by have := hF.size; omega, fun b hb _ => ?_⟩
          exact (hF.block b (by omega) (by simp; omega)).trans ((b3.block b (show b < w2.heap.size by omega)).trans (HOLD.out b hb))
        have HS : Hid (FrS (fun _ => False) w wr) := hsame
        clear hc hcur hsame
        have e1 : tvv = none := HBAD.out hf
        subst e1
        have e2 := schemaFault_one hf
        go_wp2
        go_ret
        refine ⟨by simp, _, 0, 0, by rw [if_neg hf]; exact HW.out.same (Nat.le_succ s) HS.out, fun b hb => if_pos hb, HS.out.mono (fun _ h => h.elim)⟩
  · have HK0 : Hid (ks = []) := by
      rcases HKA.out with h | ⟨g, zo, h, _⟩
      · exact h
      · cases h
    have hts := tabNews_any none 0 ks w1 (hE.below b1) (.inl HK0.out) hl
    rw [show ks.length = 0 by rw [HK0.out]; rfl] at hts
    go_wp2_with fail
    refine hts.mono ?_
    clear hts
    rintro e w2 ⟨tvv, ev, rfl, herr, b2, hbad, hgood⟩
    have HBAD : Hid ((schemaFault ks).1 ≠ 0 → tvv = none) := hbad
    have HGOOD : Hid ((schemaFault ks).1 = 0 → ∃ bt, tvv = some ⟨bt, 0, none⟩ ∧ TabOK w2 (fun b => w1.heap.size ≤ b ∧ b < w2.heap.size) bt ks []) := hgood
    clear hbad hgood
    have z2 := b2.size
    go_wp2_with fail
    refine (lawFault_any ev _ _ w2 herr).mono ?_
    rintro e _ ⟨rfl, n, rfl⟩
    have hold : ∀ k, k < w.heap.size → (w2.drewN n).heap[k]? = w.heap[k]? := fun k hk => (b2.block k (by omega)).trans (b1.block k hk)
    have HOLD : Hid (∀ k, k < w.heap.size → (w2.drewN n).heap[k]? = w.heap[k]?) := hold
    clear hold
    go_wp2_with fail
    refine (refSchema_any _ cap ks (w2.drewN n) (HKA.out.keep (fun k hk => HOLD.out k hk)) hl).mono ?_
    rintro e _ ⟨rfl, rfl⟩
    go_wp2_with fail
    refine (numbers_any _ cap ks (w2.drewN n) (HKA.out.keep (fun k hk => HOLD.out k hk)) hl).mono ?_
    rintro e w3 ⟨rfl, hW, b3, _⟩
    have z3 : w2.heap.size < w3.heap.size := (Array.getElem?_eq_some_iff.1 hW).1
    have HWn : Hid (w3.heap[w2.heap.size]? = some (.cells (lentI ks).toArray 3 (0, 0))) := hW
    have HA3 : Hid (w3.heap[w.heap.size]? = some (.cells (lentI ks).toArray 3 (0, 0))) := (b3.block _ (show w.heap.size < w2.heap.size by omega)).trans ((b2.block _ z1).trans HA.out)
    clear hW
    go_wp2_with fail
    go_loopw [14, 15] (fun o j wr => ∃ k : Nat, k ≤ ks.length + 2 ∧ o = .bool true ∧ j = .int .i64 k ∧ Fr [w.heap.size] w3 wr ∧ ∃ cur : Array Value, wr.heap[w.heap.size]? = some (.cells cur 3 (0, 0)) ∧ cur.size = ks.length + 2 ∧ ∀ x, k ≤ x → cur[x]? = (lentI ks)[x]?) (fun _ j _ => ks.length + 2 - (intOf j).toNat)
    case atStart => exact ⟨0, Nat.zero_le _, rfl, rfl, Fr.refl _ _, _, HA3.out, by simp [lentI_length], fun x _ => by simp⟩
    case round =>
      obtain ⟨k, hk, rfl, rfl, hF, cur, hcur, hsz, hc⟩ := hrel
      by_cases hlt : k < ks.length + 2
      · obtain ⟨z, hz⟩ := lentI_at ks k hlt
        have x0 : wr.cell? ⟨w.heap.size, k, none⟩ = some (.int .i64 z) := by rw [cell_of_row _ _ _ _ _ _ hcur, hc _ (Nat.le_refl _)]; exact hz
        have x1 : wr.cell? ⟨w2.heap.size, k, none⟩ = some (.int .i64 z) := (hF.cell w2.heap.size k z3 (by simp; omega)).trans (by rw [cell_of_row _ _ _ _ _ _ HWn.out]; simpa using hz)
        have f0 : wr.frozen? ⟨w.heap.size, k, none⟩ = false := by simp [World.frozen?, hcur]
        have HCUR : Hid (wr.heap[w.heap.size]? = some (.cells cur 3 (0, 0))) := hcur
        have HC : Hid (∀ x, k ≤ x → cur[x]? = (lentI ks)[x]?) := hc
        have i0 : (0 : Int) ≤ (k : Int) := by omega
        have i1 : (k : Int) < (ks.length : Int) + 2 := by omega
        clear hcur hc hz
        go_wp2_with fail
        go_quiet (fail)
        go_wp2
        go_roundw
        case rel =>
          refine ⟨k + 1, by omega, by simp, by go_num, (hF.drewN _).setCell (p := ⟨w.heap.size, _, none⟩) (.inl (by simp)) _, _, heap_setCell_same _ _ _ _ _ _ HCUR.out, by simpa using hsz, fun x hx => ?_⟩
          rw [Array.getElem?_setIfInBounds_ne (by omega)]
          exact HC.out x (by omega)
        case measure => simp [intOf]; omega
      · have i1 : ¬ (k : Int) < (ks.length : Int) + 2 := by omega
        have hsame : FrS (fun _ => False) w wr := by
          refine ⟨hF.os.trans (b3.os.trans (b2.os.trans b1.os)), hF.tape.trans (b3.tape.trans (b2.tape.trans b1.tape)), hF.output.trans (b3.output.trans (b2.output.trans b1.output)), by have := hF.size; omega, fun b hb _ => ?_⟩
          exact (hF.block b (by omega) (by simp; omega)).trans ((b3.block b (show b < w2.heap.size by omega)).trans (HOLD.out b hb))
        have HS : Hid (FrS (fun _ => False) w wr) := hsame
        clear hc hcur hsame
        have e1 : tvv = none := HBAD.out hf
        subst e1
        have e2 := schemaFault_one hf
        go_wp2
        go_ret
        refine ⟨by simp, _, 0, 0, by rw [if_neg hf]; exact HW.out.same (Nat.le_succ s) HS.out, fun b hb => if_pos hb, HS.out.mono (fun _ h => h.elim)⟩

end Go.Proofs.YtcconhgbefhdeaaDoor
