import Derived.Test.YtcconhgbefhdeaaDoorNewErr
namespace Go.Proofs.YtcconhgbefhdeaaDoor
open Go.RowKit
attribute [local go_sem ↓] Go.wp_at_zero Go.wp_at_succ

/-- The first place below n where p says no. -/
def firstBad (p : Nat → Bool) : Nat → Option Nat
  | 0 => none
  | n + 1 => match firstBad p n with
    | some i => some i
    | none => if p n then none else some n

theorem firstBad_none (p : Nat → Bool) (n : Nat) (h : firstBad p n = none) : ∀ i, i < n → p i = true := by
  induction n with
  | zero => intro i hi; omega
  | succ n ih =>
    unfold firstBad at h
    cases hx : firstBad p n with
    | some j => rw [hx] at h; simp at h
    | none =>
      rw [hx] at h
      intro i hi
      by_cases hin : i < n
      · exact ih hx i hin
      · have : i = n := by omega
        subst this
        cases hp : p i
        · rw [hp] at h; simp at h
        · rfl

theorem firstBad_some (p : Nat → Bool) (n i : Nat) (h : firstBad p n = some i) : i < n ∧ p i = false ∧ ∀ j, j < i → p j = true := by
  induction n with
  | zero => simp [firstBad] at h
  | succ n ih =>
    unfold firstBad at h
    cases hx : firstBad p n with
    | some j =>
      rw [hx] at h
      simp at h
      subst h
      obtain ⟨h1, h2⟩ := ih hx
      exact ⟨by omega, h2⟩
    | none =>
      rw [hx] at h
      cases hp : p n
      · rw [hp] at h
        simp at h
        subst h
        exact ⟨by omega, hp, fun j hj => firstBad_none p n hx j hj⟩
      · rw [hp] at h; simp at h

def fitAt (ks : List Int) (r : List (Int × ByteArray)) (i : Nat) : Bool := fitsB (ks.getD i 0) (r.getD i (0, .empty)).1 (r.getD i (0, .empty)).2

/-- P4, ahead of the room. -/
def rowFault (ks : List Int) (r : List (Int × ByteArray)) : Int × Int :=
  if r.length ≠ ks.length then (2, -1) else match firstBad (fitAt ks r) ks.length with
    | some i => (2, i)
    | none => (0, 0)

theorem rowFault_ok (ks : List Int) (r : List (Int × ByteArray)) (h : (rowFault ks r).1 = 0) : FitsRow ks r := by
  unfold rowFault at h
  split at h
  · simp at h
  · rename_i hl
    cases hb : firstBad (fitAt ks r) ks.length with
    | some i => rw [hb] at h; simp at h
    | none =>
      have hl' : r.length = ks.length := by simpa using hl
      refine ⟨hl', fun i h1 h2 => ?_⟩
      have := firstBad_none _ _ hb i h1
      unfold fitAt at this
      simpa [List.getD, h1, h2] using this

def RowAt (w : World) (ra : Option Addr) (r : List (Int × ByteArray)) : Prop := r = [] ∨ ∃ g, ra = some ⟨g, 0, none⟩ ∧ RowIn w g r

set_option maxHeartbeats 400000 in
theorem check_len (bs sc scap : Nat) (ks : List Int) (r : List (Int × ByteArray)) (ra : Option Addr) (cap : Nat) (w : World) (hs : w.cell? ⟨bs, 0, none⟩ = some (.slice (some ⟨sc, 0, none⟩) ks.length scap)) (hne : r.length ≠ ks.length) :
    Calls Tryd.prog 65 #[.pointer (some ⟨bs, 0, none⟩), .slice ra r.length cap] w fun e w' => ∃ eb, e = .returned (.iface 150 (.pointer (some ⟨eb, 0, none⟩))) ∧ InnerErr w' (.iface 150 (.pointer (some ⟨eb, 0, none⟩))) 2 (-1) ∧ Below w.heap.size w w' := by
  have hn : ((r.length : Int) != (ks.length : Int)) = true := by rw [bne_iff_ne]; omega
  go_enter Tryd.func65, Tryd.ntmps65
  go_wp2_with (first | (go_at_call 63; refine (refuse_any _ _ _ _).mono ?_; rintro e w1 ⟨eb, rfl, hin1, hb1⟩))
  go_ret
  exact ⟨eb, rfl, hin1, hb1⟩

set_option maxHeartbeats 1000000 in
theorem check_fit (bs sc scap : Nat) (ks : List Int) (r : List (Int × ByteArray)) (g cap : Nat) (w : World) (hs : w.cell? ⟨bs, 0, none⟩ = some (.slice (some ⟨sc, 0, none⟩) ks.length scap)) (hks : KindsIn w sc ks)
    (hin : RowIn w g r) (hk6 : ks.length ≤ 6) (hlen : r.length = ks.length) (i : Nat) (hb : firstBad (fitAt ks r) ks.length = some i) :
    Calls Tryd.prog 65 #[.pointer (some ⟨bs, 0, none⟩), .slice (some ⟨g, 0, none⟩) r.length cap] w fun e w' => ∃ eb, e = .returned (.iface 150 (.pointer (some ⟨eb, 0, none⟩))) ∧ InnerErr w' (.iface 150 (.pointer (some ⟨eb, 0, none⟩))) 2 i ∧ Below w.heap.size w w' := by
  obtain ⟨hi, hbad, hgood⟩ := firstBad_some _ _ _ hb
  have hbs : bs < w.heap.size := World.block_lt_of_cell? w ⟨bs, 0, none⟩ hs
  have hne : ((r.length : Int) == (r.length : Int)) = true := by simp
  have hg : g < w.heap.size := hin.lt (by omega)
  have hsc : sc < w.heap.size := hks.lt (by omega)
  rw [← hlen] at hs
  have HIN : Hid (RowIn w g r) := hin
  have HKS : Hid (KindsIn w sc ks) := hks
  have HB : Hid (fitAt ks r i = false) := hbad
  have HG : Hid (∀ j, j < i → fitAt ks r j = true) := hgood
  have HL : Hid (r.length = ks.length) := hlen
  have hir : i < r.length := by omega
  have hr6 : r.length ≤ 6 := by omega
  clear hin hks hbad hgood hb hlen hk6 hi
  go_enter Tryd.func65, Tryd.ntmps65
  go_wp2_with fail
  go_loopw [18] (fun x wr => ∃ k : Nat, k ≤ i ∧ x = .int .i64 k ∧ Below w.heap.size w wr) (fun x _ => r.length - (intOf x).toNat)
  case atStart => exact ⟨0, Nat.zero_le _, rfl, Below.refl _ _⟩
  case round =>
    obtain ⟨k, hk, rfl, hB⟩ := hrel
    have hlt : k < r.length := by omega
    have hkk : k < ks.length := by have := HL.out; omega
    obtain ⟨c1, c2⟩ := HIN.out k hlt
    have hz := hB.size
    have d1 : wr.cell? ⟨g, k * 2, none⟩ = some (.int .i64 r[k].1) := (hB.cell (p := ⟨g, k * 2, none⟩) hg).trans c1
    have d2 : wr.cell? ⟨g, k * 2 + 1, none⟩ = some (.string r[k].2) := (hB.cell (p := ⟨g, k * 2 + 1, none⟩) hg).trans c2
    have d3 : wr.cell? ⟨bs, 0, none⟩ = some (.slice (some ⟨sc, 0, none⟩) r.length scap) := (hB.cell (p := ⟨bs, 0, none⟩) hbs).trans hs
    have d4 : wr.cell? ⟨sc, k, none⟩ = some (.int .i64 ks[k]) := (hB.cell (p := ⟨sc, k, none⟩) hsc).trans (HKS.out k hkk)
    have hfe : fitAt ks r k = fitsB ks[k] r[k].1 r[k].2 := by unfold fitAt; simp [List.getD, hlt, hkk]
    have hk0 : (0 : Int) ≤ (k : Int) := by omega
    have hk1 : (k : Int) < (r.length : Int) := by omega
    have n1 := World.new_ne _ _ d3
    have n2 := World.new_ne _ _ d4
    have HFE : Hid (fitAt ks r k = fitsB ks[k] r[k].1 r[k].2) := hfe
    clear c1 c2 hfe
    generalize ks[k] = kk at *
    generalize r[k].1 = rn at *
    generalize r[k].2 = rs at *
    by_cases hki : k < i
    · have hf : fitsB kk rn rs = true := by rw [← HFE.out]; exact HG.out k hki
      go_wp2_with fail
      go_region_held3 (fun w' => w'.cell? ⟨wr.heap.size, 0, none⟩ = some (.int .i64 rn) ∧ w'.cell? ⟨wr.heap.size, 1, none⟩ = some (.string rs) ∧ w'.cell? ⟨bs, 0, none⟩ = some (.slice (some ⟨sc, 0, none⟩) r.length scap) ∧ w'.cell? ⟨sc, k, none⟩ = some (.int .i64 kk)) (go_keep)
        (first | (go_at_call 80; refine (fits_any _ _ _ _).mono ?_; rintro e w1 ⟨rfl, rfl⟩))
      go_wp2
      go_roundw
      case rel => exact ⟨k + 1, by omega, by go_num, (((hB.alloc (by omega) _).alloc (by simp; omega) _)).drew⟩
      case measure => simp [intOf]; omega
    · have hke : k = i := by omega
      subst hke
      have hf : fitsB kk rn rs = false := by rw [← HFE.out]; exact HB.out
      go_wp2_with fail
      go_region_held3 (fun w' => w'.cell? ⟨wr.heap.size, 0, none⟩ = some (.int .i64 rn) ∧ w'.cell? ⟨wr.heap.size, 1, none⟩ = some (.string rs) ∧ w'.cell? ⟨bs, 0, none⟩ = some (.slice (some ⟨sc, 0, none⟩) r.length scap) ∧ w'.cell? ⟨sc, k, none⟩ = some (.int .i64 kk)) (go_keep)
        (first | (go_at_call 80; refine (fits_any _ _ _ _).mono ?_; rintro e w1 ⟨rfl, rfl⟩))
      go_wp2_with (first | (go_at_call 63; refine (refuse_any _ _ _ _).mono ?_; rintro e w1 ⟨eb, rfl, hin1, hb1⟩))
      go_ret
      exact ⟨eb, rfl, hin1, (((hB.alloc (by omega) _).alloc (by simp; omega) _)).drew.trans (hb1.mono (by simp; omega))⟩

set_option maxRecDepth 100000 in
set_option maxHeartbeats 400000 in
theorem storeAppend_bad (base bs : Nat) (ks : List Int) (L : List (Nat × List (Int × ByteArray))) (sv fv : Value) (r : List (Int × ByteArray)) (ra : Option Addr) (cap : Nat) (w : World) (h : StoreAt w base bs ks L sv fv) (hk : 0 < ks.length) (hk6 : ks.length ≤ 6) (hin : RowAt w ra r) (hf : (rowFault ks r).1 ≠ 0) :
    Calls Tryd.prog 44 #[.pointer (some ⟨bs, 0, none⟩), .slice ra r.length cap] w fun e w' => ∃ eb, e = .returned (.iface 150 (.pointer (some ⟨eb, 0, none⟩))) ∧ InnerErr w' (.iface 150 (.pointer (some ⟨eb, 0, none⟩))) 2 (rowFault ks r).2 ∧ Below w.heap.size w w' := by
  obtain ⟨sc, scap, rfl, hkin, _, _, _⟩ := h.kinds hk
  have c0 : w.cell? ⟨bs, 0, none⟩ = some (.slice (some ⟨sc, 0, none⟩) ks.length scap) := by rw [cell_of_row _ _ _ _ _ _ h.blk]; rfl
  have key : Calls Tryd.prog 65 #[.pointer (some ⟨bs, 0, none⟩), .slice ra r.length cap] w fun e w' => ∃ eb, e = .returned (.iface 150 (.pointer (some ⟨eb, 0, none⟩))) ∧ InnerErr w' (.iface 150 (.pointer (some ⟨eb, 0, none⟩))) 2 (rowFault ks r).2 ∧ Below w.heap.size w w' := by
    by_cases hn : r.length ≠ ks.length
    · have e : (rowFault ks r).2 = -1 := by unfold rowFault; rw [if_pos hn]
      rw [e]
      exact check_len bs sc scap ks r ra cap w c0 hn
    · cases hb : firstBad (fitAt ks r) ks.length with
      | none => exact absurd (by unfold rowFault; rw [if_neg hn, hb]) hf
      | some i =>
        have e : (rowFault ks r).2 = (i : Int) := by unfold rowFault; rw [if_neg hn, hb]
        have hl' : r.length = ks.length := by simpa using hn
        rcases hin with h0 | ⟨g, rfl, hrow⟩
        · rw [h0] at hl'; simp at hl'; omega
        rw [e]
        exact check_fit bs sc scap ks r g cap w c0 hkin hrow hk6 hl' i hb
  have KEY : Hid (Calls Tryd.prog 65 #[.pointer (some ⟨bs, 0, none⟩), .slice ra r.length cap] w fun e w' => ∃ eb, e = .returned (.iface 150 (.pointer (some ⟨eb, 0, none⟩))) ∧ InnerErr w' (.iface 150 (.pointer (some ⟨eb, 0, none⟩))) 2 (rowFault ks r).2 ∧ Below w.heap.size w w') := key
  clear key hkin hin h c0
  go_enter Tryd.func44, Tryd.ntmps44
  go_wp2_with fail
  refine KEY.out.mono ?_
  rintro e w1 ⟨eb, rfl, hin1, hb1⟩
  go_wp2
  go_ret
  exact ⟨eb, rfl, hin1, hb1⟩

set_option maxRecDepth 100000 in
set_option maxHeartbeats 400000 in
theorem storeAppend_full (base bs : Nat) (ks : List Int) (L : List (Nat × List (Int × ByteArray))) (sv fv : Value) (r : List (Int × ByteArray)) (g cap : Nat) (w : World) (h : StoreAt w base bs ks L sv fv)
    (hL : L.length = 1000) (hin : RowIn w g r) (hk : 0 < ks.length) (hr : r.length ≤ 1000) (hfit : FitsRow ks r) :
    Calls Tryd.prog 44 #[.pointer (some ⟨bs, 0, none⟩), .slice (some ⟨g, 0, none⟩) r.length cap] w fun e w' => ∃ eb, e = .returned (.iface 150 (.pointer (some ⟨eb, 0, none⟩))) ∧ InnerErr w' (.iface 150 (.pointer (some ⟨eb, 0, none⟩))) 6 0 ∧ Below w.heap.size w w' := by
  obtain ⟨sc, scap, rfl, hkin, _, _, _⟩ := h.kinds hk
  obtain ⟨fa, fc, rfl⟩ : ∃ fa fc, fv = .slice fa 1000 fc := by
    rcases h.rows.own.2 with ⟨_, h2⟩ | ⟨gg, cp, _, h1, _⟩
    · omega
    · exact ⟨_, cp, by rw [h1, hL]⟩
  have hbs : bs < w.heap.size := (Array.getElem?_eq_some_iff.1 h.blk).1
  have c0 : w.cell? ⟨bs, 0, none⟩ = some (.slice (some ⟨sc, 0, none⟩) ks.length scap) := by rw [cell_of_row _ _ _ _ _ _ h.blk]; rfl
  have c1 : w.cell? ⟨bs, 1, none⟩ = some (.slice fa 1000 fc) := by rw [cell_of_row _ _ _ _ _ _ h.blk]; rfl
  go_enter Tryd.func44, Tryd.ntmps44
  go_wp2_with fail
  refine (check_ok bs sc scap ks r g cap w c0 hkin hin hr hfit).mono ?_
  rintro e w1 ⟨rfl, hb1⟩
  have k1 : w1.cell? ⟨bs, 1, none⟩ = some (.slice fa 1000 fc) := (hb1.cell (p := ⟨bs, 1, none⟩) hbs).trans c1
  clear c0 c1
  go_wp2_with (first | (go_at_call 63; refine (refuse_any _ _ _ _).mono ?_; rintro e w2 ⟨eb, rfl, hin1, hb2⟩))
  go_ret
  exact ⟨eb, rfl, hin1, hb1.trans (hb2.mono hb1.size)⟩

/-- P4. -/
def appendFault (ks : List Int) (r : List (Int × ByteArray)) (n : Nat) : Int × Int :=
  if (rowFault ks r).1 ≠ 0 then (2, (rowFault ks r).2) else if n < 1000 then (0, 0) else (6, 0)

set_option maxRecDepth 100000 in
set_option maxHeartbeats 400000 in
theorem tableAppend_bad (base bt bs : Nat) (ks : List Int) (L : List (Nat × List (Int × ByteArray))) (sv fv : Value) (r : List (Int × ByteArray)) (ra : Option Addr) (cap : Nat) (w : World) (hgt : ErrType w) (h : TableAt w base bt bs ks L sv fv)
    (hL : L.length ≤ 1000) (hk : 0 < ks.length) (hk6 : ks.length ≤ 6) (hin : RowAt w ra r) (hf : (appendFault ks r L.length).1 ≠ 0) :
    Calls Tryd.prog 25 #[.pointer (some ⟨bt, 0, none⟩), .slice ra r.length cap] w fun e w' => ∃ fb, e = .returned (.iface 100 (.pointer (some ⟨fb, 0, none⟩))) ∧ FaultAt w' (.iface 100 (.pointer (some ⟨fb, 0, none⟩))) (appendFault ks r L.length).1 (appendFault ks r L.length).2 ∧ Below w.heap.size w w' := by
  have c0 : w.cell? ⟨bt, 0, none⟩ = some (.pointer (some ⟨bs, 0, none⟩)) := by rw [cell_of_row _ _ _ _ _ _ h.tab]; rfl
  have key : Calls Tryd.prog 44 #[.pointer (some ⟨bs, 0, none⟩), .slice ra r.length cap] w fun e w' => ∃ eb, e = .returned (.iface 150 (.pointer (some ⟨eb, 0, none⟩))) ∧ InnerErr w' (.iface 150 (.pointer (some ⟨eb, 0, none⟩))) (appendFault ks r L.length).1 (appendFault ks r L.length).2 ∧ Below w.heap.size w w' := by
    by_cases h1 : (rowFault ks r).1 ≠ 0
    · have e : appendFault ks r L.length = (2, (rowFault ks r).2) := by unfold appendFault; rw [if_pos h1]
      rw [e]
      exact storeAppend_bad base bs ks L sv fv r ra cap w h.sto hk hk6 hin h1
    · have h1' : (rowFault ks r).1 = 0 := by simpa using h1
      have hfit := rowFault_ok ks r h1'
      by_cases h2 : L.length < 1000
      · exact absurd (by unfold appendFault; rw [if_neg h1, if_pos h2]) hf
      · have e : appendFault ks r L.length = (6, 0) := by unfold appendFault; rw [if_neg h1, if_neg h2]
        rw [e]
        have hlr := hfit.1
        rcases hin with h0 | ⟨g, rfl, hrow⟩
        · rw [h0] at hlr; simp at hlr; omega
        exact storeAppend_full base bs ks L sv fv r g cap w h.sto (by omega) hrow hk (by omega) hfit
  generalize appendFault ks r L.length = af at *
  have KEY : Hid (Calls Tryd.prog 44 #[.pointer (some ⟨bs, 0, none⟩), .slice ra r.length cap] w fun e w' => ∃ eb, e = .returned (.iface 150 (.pointer (some ⟨eb, 0, none⟩))) ∧ InnerErr w' (.iface 150 (.pointer (some ⟨eb, 0, none⟩))) af.1 af.2 ∧ Below w.heap.size w w') := key
  clear key hin h
  go_enter Tryd.func25, Tryd.ntmps25
  go_wp2_with fail
  refine KEY.out.mono ?_
  rintro e w1 ⟨eb, rfl, hin1, hb1⟩
  go_wp2_with fail
  refine (faultIn_err _ _ _ _ (hgt.below hb1) hin1).mono ?_
  rintro e w2 ⟨fb, rfl, hfa, hb2⟩
  go_wp2
  go_ret
  exact ⟨fb, rfl, hfa, hb1.trans (hb2.mono hb1.size)⟩

end Go.Proofs.YtcconhgbefhdeaaDoor
