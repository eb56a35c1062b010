import Derived.Test.YtcconhgbefhdeaaDoorScansP01
import Derived.Deep.QuietTactic
import Derived.BigQuiet
namespace Go.Proofs.YtcconhgbefhdeaaDoor
open Go.RowKit

set_option maxHeartbeats 400000 in
theorem as_nil (p : Addr) (w : World) :
    Calls Tryd.prog 48 #[.nilIface, .iface 102 (.pointer (some p))] w fun e w' => e = .returned (.bool false) ∧ w' = w := by
  go_enter Tryd.func48, Tryd.ntmps48
  go_wp2
  go_ret
  exact ⟨rfl, rfl⟩

set_option maxHeartbeats 400000 in
theorem faultIn_nil (w : World) :
    Calls Tryd.prog 30 #[.nilIface] w fun e w' => e = .returned .nilIface ∧ Below w.heap.size w w' := by
  go_enter Tryd.func30, Tryd.ntmps30
  go_wp2_with (go_at_call 48; refine (as_nil _ _).mono ?_; rintro e w' ⟨rfl, rfl⟩)
  go_ret
  exact ⟨rfl, (Below.refl _ _).alloc (Nat.le_refl _) _⟩

/-- A table in memory. -/
structure TableAt (w : World) (base bt bs : Nat) (ks : List Int) (L : List (Nat × List (Int × ByteArray))) (sv fv : Value) : Prop where
  tab : w.heap[bt]? = some (.cells #[.pointer (some ⟨bs, 0, none⟩)] 74 (0, 0))
  lo : base ≤ bt
  sto : StoreAt w base bs ks L sv fv

/-- The blocks in which a table lies. -/
def Foot (bt bs : Nat) (L : List (Nat × List (Int × ByteArray))) (sv fv : Value) (k : Nat) : Prop :=
  k = bt ∨ k = bs ∨ sv.ownBlock = some k ∨ fv.ownBlock = some k ∨ ∃ p ∈ L, p.1 = k

theorem own_keep {w w' : World} {base : Nat} {e : TypeId} {size : Nat} {v : Value} {n : Nat} {xs : List Value} (h : w.ownsRow base e size v n xs) (hb : ∀ k, k < w.heap.size → v.ownBlock = some k → w'.heap[k]? = w.heap[k]?) : w'.ownsRow base e size v n xs := by
  refine ⟨h.1, ?_⟩
  rcases h.2 with h1 | ⟨g, cap, cur, hv, hg, hh, rest⟩
  · exact .inl h1
  · refine .inr ⟨g, cap, cur, hv, hg, ?_, rest⟩
    rw [hb g (Array.getElem?_eq_some_iff.1 hh).1 (by rw [hv]; rfl)]
    exact hh

theorem RowsAt.keepOn {w w' : World} {base : Nat} {v : Value} {L : List (Nat × List (Int × ByteArray))} (h : RowsAt w base v L) (hb : ∀ k, k < w.heap.size → (v.ownBlock = some k ∨ ∃ p ∈ L, p.1 = k) → w'.heap[k]? = w.heap[k]?) : RowsAt w' base v L :=
  ⟨own_keep h.own (fun k hk e => hb k hk (.inl e)), fun p hp => by
    obtain ⟨h1, h2⟩ := h.blk p hp
    refine ⟨h1, ?_⟩
    unfold RowBlk at h2 ⊢
    rw [hb p.1 (Array.getElem?_eq_some_iff.1 h2).1 (.inr ⟨p, hp, rfl⟩)]
    exact h2⟩

theorem StoreAt.keepOn {w w' : World} {base bs : Nat} {ks : List Int} {L : List (Nat × List (Int × ByteArray))} {sv fv : Value} (h : StoreAt w base bs ks L sv fv)
    (hb : ∀ k, k < w.heap.size → (k = bs ∨ sv.ownBlock = some k ∨ fv.ownBlock = some k ∨ ∃ p ∈ L, p.1 = k) → w'.heap[k]? = w.heap[k]?) : StoreAt w' base bs ks L sv fv :=
  ⟨(hb bs (Array.getElem?_eq_some_iff.1 h.blk).1 (.inl rfl)).trans h.blk, h.lo, own_keep h.sch (fun k hk e => hb k hk (.inr (.inl e))), h.rows.keepOn (fun k hk e => hb k hk (.inr (.inr e)))⟩

theorem TableAt.keepOn {w w' : World} {base bt bs : Nat} {ks : List Int} {L : List (Nat × List (Int × ByteArray))} {sv fv : Value} (h : TableAt w base bt bs ks L sv fv)
    (hb : ∀ k, k < w.heap.size → Foot bt bs L sv fv k → w'.heap[k]? = w.heap[k]?) : TableAt w' base bt bs ks L sv fv :=
  ⟨(hb bt (Array.getElem?_eq_some_iff.1 h.tab).1 (.inl rfl)).trans h.tab, h.lo, h.sto.keepOn (fun k hk e => hb k hk (.inr e))⟩

theorem TableAt.below {w w' : World} {base bt bs : Nat} {ks : List Int} {L : List (Nat × List (Int × ByteArray))} {sv fv : Value} (h : TableAt w base bt bs ks L sv fv) (hb : Below w.heap.size w w') : TableAt w' base bt bs ks L sv fv :=
  h.keepOn (fun k hk _ => hb.block k hk)
theorem StoreAt.below {w w' : World} {base bs : Nat} {ks : List Int} {L : List (Nat × List (Int × ByteArray))} {sv fv : Value} (h : StoreAt w base bs ks L sv fv) (hb : Below w.heap.size w w') : StoreAt w' base bs ks L sv fv :=
  h.keepOn (fun k hk _ => hb.block k hk)

/-- The table's own block is none that an Append may turn. -/
theorem TableAt.far {w : World} {base bt bs : Nat} {ks : List Int} {L : List (Nat × List (Int × ByteArray))} {sv fv : Value} (h : TableAt w base bt bs ks L sv fv) : bt ∉ bs :: fv.ownBlock.toList := by
  intro hm
  rcases List.mem_cons.1 hm with e | e
  · have h1 := h.sto.blk
    rw [← e, h.tab] at h1
    simp at h1
  · have e' : fv.ownBlock = some bt := by simpa using e
    rcases h.sto.rows.own.2 with ⟨h1, _⟩ | ⟨gg, cp, cur, h1, _, h2, _⟩
    · rw [h1] at e'; cases e'
    · rw [h1] at e'
      simp only [Value.ownBlock, Option.some.injEq] at e'
      rw [e', h.tab] at h2
      simp at h2

set_option maxHeartbeats 400000 in
theorem tableAppend_ok (base bt bs : Nat) (ks : List Int) (L : List (Nat × List (Int × ByteArray))) (sv fv : Value) (r : List (Int × ByteArray)) (g cap : Nat) (w : World) (h : TableAt w base bt bs ks L sv fv) (hbase : base ≤ w.heap.size)
    (hL : L.length < 1000) (hin : RowIn w g r) (hk : 0 < ks.length) (hr : r.length ≤ 1000) (hfit : FitsRow ks r) (hs : ∀ p ∈ r, p.2.size ≤ 1000000) :
    Calls Tryd.prog 25 #[.pointer (some ⟨bt, 0, none⟩), .slice (some ⟨g, 0, none⟩) r.length cap] w fun e w' => e = .returned .nilIface ∧
      ∃ fv' g', TableAt w' base bt bs ks (L ++ [(g', r)]) sv fv' ∧ w.heap.size ≤ g' ∧ Fr (bs :: fv.ownBlock.toList) w w' ∧ (fv'.ownBlock = fv.ownBlock ∨ ∃ k, fv'.ownBlock = some k ∧ w.heap.size ≤ k) := by
  have c0 : w.cell? ⟨bt, 0, none⟩ = some (.pointer (some ⟨bs, 0, none⟩)) := by rw [cell_of_row _ _ _ _ _ _ h.tab]; rfl
  go_enter Tryd.func25, Tryd.ntmps25
  go_wp2_with fail
  refine (storeAppend_ok base bs ks L sv fv r g cap w h.sto hbase hL hin hk hr hfit hs).mono ?_
  rintro e w1 ⟨rfl, fv', g', hst, hg', hF, ho⟩
  have htab : w1.heap[bt]? = some (.cells #[.pointer (some ⟨bs, 0, none⟩)] 74 (0, 0)) := (hF.block bt (Array.getElem?_eq_some_iff.1 h.tab).1 h.far).trans h.tab
  have HO : Hid (fv'.ownBlock = fv.ownBlock ∨ ∃ k, fv'.ownBlock = some k ∧ w.heap.size ≤ k) := ho
  clear ho c0
  go_wp2_with fail
  refine (faultIn_nil _).mono ?_
  rintro e w2 ⟨rfl, hb2⟩
  go_wp2
  go_ret
  exact ⟨rfl, fv', g', TableAt.below ⟨htab, h.lo, hst⟩ hb2, hg', hF.then hb2, HO.out⟩

end Go.Proofs.YtcconhgbefhdeaaDoor

namespace Go.Proofs.YtcconhgbefhdeaaDoor
open Go.RowKit

set_option maxHeartbeats 400000 in
theorem storeNew_ok (g cap : Nat) (ks : List Int) (w : World) (hks : KindsIn w g ks) (h1 : 1 ≤ ks.length) (h6 : ks.length ≤ 6) (ht : ∀ k ∈ ks, isTypeB k = true) :
    Calls Tryd.prog 43 #[.slice (some ⟨g, 0, none⟩) ks.length cap] w fun e w' => ∃ bs sv, e = .returned (.tuple #[.pointer (some ⟨bs, 0, none⟩), .nilIface]) ∧
      StoreAt w' w.heap.size bs ks [] sv (.slice none 0 0) ∧ Below w.heap.size w w' := by
  have t1 : ¬ ((ks.length : Int) < 1) := by omega
  have t2 : ¬ ((6 : Int) < (ks.length : Int)) := by omega
  go_enter Tryd.func43, Tryd.ntmps43
  go_wp2_with fail
  go_loop [8] (fun i => ∃ k : Nat, k ≤ ks.length ∧ i = .int .i64 k) (fun i => ks.length - (intOf i).toNat)
  case atStart => exact ⟨0, Nat.zero_le _, rfl⟩
  case round =>
    obtain ⟨k, hk, rfl⟩ := hrel
    by_cases hlt : k < ks.length
    · have d1 := hks k hlt
      have hty : isTypeB ks[k] = true := ht _ (List.getElem_mem hlt)
      go_wp2_with (go_at_call 62; refine (isType_any _ _).mono ?_; rintro e w' ⟨rfl, rfl⟩)
      go_round
      case rel => exact ⟨k + 1, by omega, by go_num⟩
      case measure => simp [intOf]; omega
    · go_wp2_with fail
      refine (Tryd.slices_Clone_int g 0 ks.length cap ks w (Nat.le_refl _) (by omega) (fun j hj => by rw [Nat.zero_add, hks j hj]; simp [List.getD, hj])).mono ?_
      rintro e w1 ⟨v', rfl, hown, _, hb⟩
      rw [List.take_length] at hown
      obtain ⟨g', cap', rfl, _, _⟩ := hown.form (by omega)
      go_wp2
      go_ret2
      refine ⟨w1.heap.size, .slice (some ⟨g', 0, none⟩) ks.length cap', rfl, ?_, hb.alloc hb.size _⟩
      refine ⟨heap_alloc_new w1 _, hb.size, hown.alloc _, ⟨World.ownsRow_nil _ _ _ _, by simp⟩⟩

set_option maxHeartbeats 400000 in
theorem new_ok (g cap : Nat) (ks : List Int) (w : World) (hks : KindsIn w g ks) (h1 : 1 ≤ ks.length) (h6 : ks.length ≤ 6) (ht : ∀ k ∈ ks, isTypeB k = true) :
    Calls Tryd.prog 24 #[.slice (some ⟨g, 0, none⟩) ks.length cap] w fun e w' => ∃ bt bs sv, e = .returned (.tuple #[.pointer (some ⟨bt, 0, none⟩), .nilIface]) ∧
      TableAt w' w.heap.size bt bs ks [] sv (.slice none 0 0) ∧ Below w.heap.size w w' := by
  go_enter Tryd.func24, Tryd.ntmps24
  go_wp2_with fail
  refine (storeNew_ok g cap ks w hks h1 h6 ht).mono ?_
  rintro e w1 ⟨bs, sv, rfl, hst, hb⟩
  go_wp2
  go_ret2
  exact ⟨w1.heap.size, bs, sv, rfl, ⟨heap_alloc_new w1 _, hb.size, hst.below ((Below.refl _ _).alloc (Nat.le_refl _) _)⟩, hb.alloc hb.size _⟩

end Go.Proofs.YtcconhgbefhdeaaDoor

namespace Go.Proofs.YtcconhgbefhdeaaDoor
open Go.RowKit

/-- A refusal, as the inner packages hand it up. -/
def InnerErr (w : World) (v : Value) (k a : Int) : Prop :=
  ∃ eb fb, v = .iface 150 (.pointer (some ⟨eb, 0, none⟩)) ∧ w.cell? ⟨eb, 1, none⟩ = some (.iface 100 (.pointer (some ⟨fb, 0, none⟩))) ∧ w.cell? ⟨fb, 0, none⟩ = some (.int .i64 k) ∧ w.cell? ⟨fb, 1, none⟩ = some (.int .i64 a)

/-- A fault, as the calls answer it. -/
def FaultAt (w : World) (v : Value) (k a : Int) : Prop :=
  ∃ fb, v = .iface 100 (.pointer (some ⟨fb, 0, none⟩)) ∧ w.cell? ⟨fb, 0, none⟩ = some (.int .i64 k) ∧ w.cell? ⟨fb, 1, none⟩ = some (.int .i64 a)

theorem InnerErr.below {w w' : World} {v : Value} {k a : Int} (h : InnerErr w v k a) (hb : Below w.heap.size w w') : InnerErr w' v k a := by
  obtain ⟨eb, fb, rfl, h1, h2, h3⟩ := h
  exact ⟨eb, fb, rfl, (hb.cell (World.block_lt_of_cell? w _ h1)).trans h1, (hb.cell (World.block_lt_of_cell? w _ h2)).trans h2, (hb.cell (World.block_lt_of_cell? w _ h3)).trans h3⟩
theorem FaultAt.below {w w' : World} {v : Value} {k a : Int} (h : FaultAt w v k a) (hb : Below w.heap.size w w') : FaultAt w' v k a := by
  obtain ⟨fb, rfl, h2, h3⟩ := h
  exact ⟨fb, rfl, (hb.cell (World.block_lt_of_cell? w _ h2)).trans h2, (hb.cell (World.block_lt_of_cell? w _ h3)).trans h3⟩

set_option maxHeartbeats 400000 in
theorem refuse_any (why : ByteArray) (k a : Int) (w : World) :
    Calls Tryd.prog 63 #[.string why, .int .i64 k, .int .i64 a] w fun e w' => ∃ eb, e = .returned (.iface 150 (.pointer (some ⟨eb, 0, none⟩))) ∧ InnerErr w' (.iface 150 (.pointer (some ⟨eb, 0, none⟩))) k a ∧ Below w.heap.size w w' := by
  go_enter Tryd.func63, Tryd.ntmps63
  go_wp2
  go_ret
  exact ⟨w.heap.size + 1, rfl, ⟨w.heap.size + 1, w.heap.size, rfl, by simp, by simp, by simp⟩, ((Below.refl _ _).alloc (Nat.le_refl _) _).alloc (by simp) _⟩

set_option maxRecDepth 100000 in
set_option maxHeartbeats 400000 in
theorem faultIn_err (v : Value) (k a : Int) (w : World) (hg : ErrType w) (h : InnerErr w v k a) :
    Calls Tryd.prog 30 #[v] w fun e w' => ∃ fb, e = .returned (.iface 100 (.pointer (some ⟨fb, 0, none⟩))) ∧ FaultAt w' (.iface 100 (.pointer (some ⟨fb, 0, none⟩))) k a ∧ Below w.heap.size w w' := by
  obtain ⟨eb, fb, rfl, h1, h2, h3⟩ := h
  have heb := World.block_lt_of_cell? w _ h1
  have hfb := World.block_lt_of_cell? w _ h2
  simp at heb hfb
  have hg1 : ErrType (w.alloc (.cells #[.pointer none] 100)) := hg.below ((Below.refl _ _).alloc (Nat.le_refl _) _)
  go_enter Tryd.func30, Tryd.ntmps30
  go_wp2_with fail
  refine (as_hit eb ⟨fb, 0, none⟩ ⟨w.heap.size, 0, none⟩ (.pointer none) _ hg1 (by simp) (by simp) ((cell_alloc w _ eb 1 heb).trans h1)).mono ?_
  rintro e w' ⟨rfl, o1, o2, o3, o4, rfl⟩
  have hc : ∀ W : World, w.heap.size < W.heap.size → (∃ x, W.cell? ⟨w.heap.size, 0, none⟩ = some x) → (W.setCell ⟨w.heap.size, 0, none⟩ (.pointer (some ⟨fb, 0, none⟩))).cell? ⟨w.heap.size, 0, none⟩ = some (.pointer (some ⟨fb, 0, none⟩)) := fun W _ ⟨x, hx⟩ => World.cell?_setCell_same W ⟨w.heap.size, 0, none⟩ _ hx
  have hl := hc (((((w.alloc (.cells #[.pointer none] 100)).alloc o1).alloc o2).alloc o3).alloc o4) (by simp; omega) ⟨.pointer none, by
    rw [cell_alloc _ _ _ _ (by simp; omega), cell_alloc _ _ _ _ (by simp; omega), cell_alloc _ _ _ _ (by simp; omega), cell_alloc _ _ _ _ (by simp)]; simp⟩
  clear hc
  have B : Below w.heap.size w ((((((w.alloc (.cells #[.pointer none] 100)).alloc o1).alloc o2).alloc o3).alloc o4).setCell ⟨w.heap.size, 0, none⟩ (.pointer (some ⟨fb, 0, none⟩))) := ((((((Below.refl _ _).alloc (Nat.le_refl _) _).alloc (by simp) _).alloc (by simp; omega) _).alloc (by simp; omega) _).alloc (by simp; omega) _).setCell (Nat.le_refl _) _
  generalize ((((((w.alloc (.cells #[.pointer none] 100)).alloc o1).alloc o2).alloc o3).alloc o4).setCell ⟨w.heap.size, 0, none⟩ (.pointer (some ⟨fb, 0, none⟩))) = w' at *
  go_wp2
  go_ret
  exact ⟨fb, rfl, ⟨fb, rfl, (B.cell (p := ⟨fb, 0, none⟩) hfb).trans h2, (B.cell (p := ⟨fb, 1, none⟩) hfb).trans h3⟩, B⟩

theorem assert_fault (p : Option Addr) (w : World) : (Instr.typeAssert (.iface 100 (.pointer p)) 44 100 true).run Tryd.prog w = .ok (.tuple #[.pointer p, .bool true]) w := by kernel_rfl

set_option maxHeartbeats 400000 in
theorem lawFault_nil (w : World) : Calls Tryd.prog 36 #[.nilIface] w fun e w' => e = .returned (.tuple #[.int .i64 0, .int .i64 0]) ∧ w' = w := by
  go_enter Tryd.func36, Tryd.ntmps36
  go_wp2
  go_ret2
  exact ⟨rfl, rfl⟩
set_option maxRecDepth 100000 in
set_option maxHeartbeats 400000 in
theorem lawFault_err (v : Value) (k a : Int) (w : World) (h : FaultAt w v k a) : Calls Tryd.prog 36 #[v] w fun e w' => e = .returned (.tuple #[.int .i64 k, .int .i64 a]) ∧ ∃ n, w' = w.drewN n := by
  obtain ⟨fb, rfl, h2, h3⟩ := h
  have ta := assert_fault
  go_enter Tryd.func36, Tryd.ntmps36
  go_wp2_with fail
  go_quiet (fail)
  go_wp2
  go_ret2
  exact ⟨rfl, _, rfl⟩

end Go.Proofs.YtcconhgbefhdeaaDoor

namespace Go.Proofs.YtcconhgbefhdeaaDoor
open Go.RowKit

/-- The first place from k on where a type is none. -/
def badKind : List Int → Nat → Option Nat
  | [], _ => none
  | x :: r, k => if isTypeB x then badKind r (k + 1) else some k

/-- P3. -/
def schemaFault (ks : List Int) : Int × Int :=
  match badKind ks 0 with
  | some i => (1, i)
  | none => if ks.length < 1 ∨ 6 < ks.length then (1, -1) else (0, 0)

theorem badKind_shift (r : List Int) (j k : Nat) : badKind r (j + k) = (badKind r j).map (· + k) := by
  induction r generalizing j with
  | nil => rfl
  | cons x r ih =>
    unfold badKind
    split
    · rw [show j + k + 1 = j + 1 + k by omega]; exact ih _
    · rfl

theorem badKind_at (ks : List Int) (i : Nat) (h : badKind ks 0 = some i) : ∃ hi : i < ks.length, isTypeB ks[i] = false ∧ ∀ j (hj : j < i), isTypeB (ks[j]'(by omega)) = true := by
  induction ks generalizing i with
  | nil => simp [badKind] at h
  | cons x r ih =>
    unfold badKind at h
    cases hx : isTypeB x
    · rw [hx] at h
      simp at h
      subst h
      exact ⟨by simp, by simpa using hx, fun j hj => by omega⟩
    · rw [hx] at h
      simp only [if_true] at h
      rw [show (0 : Nat) + 1 = 0 + 1 by rfl, badKind_shift] at h
      obtain ⟨m, hm, rfl⟩ := Option.map_eq_some_iff.1 h
      obtain ⟨h1, h2, h3⟩ := ih m hm
      refine ⟨by simp; omega, by simpa using h2, fun j hj => ?_⟩
      cases j with
      | zero => simpa using hx
      | succ j => simpa using h3 j (by omega)

theorem badKind_none (ks : List Int) (k : Nat) (h : badKind ks k = none) : ∀ x ∈ ks, isTypeB x = true := by
  induction ks generalizing k with
  | nil => simp
  | cons x r ih =>
    unfold badKind at h
    cases hx : isTypeB x
    · rw [hx] at h; simp at h
    · rw [hx] at h
      intro y hy
      rcases List.mem_cons.1 hy with rfl | hy
      · exact hx
      · exact ih _ (by simpa using h) y hy

def KindsAt (w : World) (sa : Option Addr) (ks : List Int) : Prop := ks = [] ∨ ∃ g, sa = some ⟨g, 0, none⟩ ∧ KindsIn w g ks

set_option maxHeartbeats 400000 in
theorem storeNew_bad (sa : Option Addr) (cap : Nat) (ks : List Int) (w : World) (hks : KindsAt w sa ks) (hl : ks.length ≤ 9000000) (hf : (schemaFault ks).1 ≠ 0) :
    Calls Tryd.prog 43 #[.slice sa ks.length cap] w fun e w' => ∃ eb, e = .returned (.tuple #[.pointer none, .iface 150 (.pointer (some ⟨eb, 0, none⟩))]) ∧ InnerErr w' (.iface 150 (.pointer (some ⟨eb, 0, none⟩))) 1 (schemaFault ks).2 ∧ Below w.heap.size w w' := by
  have HK : Hid (KindsAt w sa ks) := hks
  clear hks
  cases hb : badKind ks 0 with
  | some i =>
    obtain ⟨hi, hbad, hgood⟩ := badKind_at ks i hb
    have HA : Hid ((schemaFault ks).2 = (i : Int)) := by unfold schemaFault Hid; rw [hb]
    have HG : Hid (∀ j (hj : j < i), isTypeB (ks[j]'(by omega)) = true) := hgood
    rcases HK.out with h0 | ⟨g, rfl, hin⟩
    · rw [h0] at hi; simp at hi
    have HIN : Hid (KindsIn w g ks) := hin
    clear hb hin hf hgood
    rw [HA.out]
    go_enter Tryd.func43, Tryd.ntmps43
    go_wp2_with fail
    go_loop [8] (fun x => ∃ k : Nat, k ≤ i ∧ x = .int .i64 k) (fun x => ks.length - (intOf x).toNat)
    case atStart => exact ⟨0, Nat.zero_le _, rfl⟩
    case round =>
      obtain ⟨k, hk, rfl⟩ := hrel
      have hlt : k < ks.length := by omega
      have d1 := HIN.out k hlt
      by_cases hki : k < i
      · have hty : isTypeB ks[k] = true := HG.out k hki
        go_wp2_with (go_at_call 62; refine (isType_any _ _).mono ?_; rintro e w' ⟨rfl, rfl⟩)
        go_round
        case rel => exact ⟨k + 1, by omega, by go_num⟩
        case measure => simp [intOf]; omega
      · have hke : k = i := by omega
        subst hke
        go_wp2_with (first | (go_at_call 62; refine (isType_any _ _).mono ?_; rintro e w' ⟨rfl, rfl⟩) | (go_at_call 63; refine (refuse_any _ _ _ _).mono ?_; rintro e w1 ⟨eb, rfl, hin1, hb1⟩))
        go_ret2
        exact ⟨eb, rfl, hin1, hb1⟩
  | none =>
    have hall := badKind_none ks 0 hb
    have hlen : ks.length < 1 ∨ 6 < ks.length := by
      refine Decidable.byContradiction fun h => hf ?_
      unfold schemaFault; rw [hb]; simp only; rw [if_neg h]
    have HA : Hid ((schemaFault ks).2 = -1) := by unfold schemaFault Hid; rw [hb]; simp only; rw [if_pos hlen]
    have HALL : Hid (∀ x ∈ ks, isTypeB x = true) := hall
    have t1 : (ks.length : Int) < 1 ∨ (¬ (ks.length : Int) < 1 ∧ (6 : Int) < (ks.length : Int)) := by omega
    clear hb hf hall hlen
    rw [HA.out]
    go_enter Tryd.func43, Tryd.ntmps43
    go_wp2_with fail
    go_loop [8] (fun x => ∃ k : Nat, k ≤ ks.length ∧ x = .int .i64 k) (fun x => ks.length - (intOf x).toNat)
    case atStart => exact ⟨0, Nat.zero_le _, rfl⟩
    case round =>
      obtain ⟨k, hk, rfl⟩ := hrel
      by_cases hlt : k < ks.length
      · rcases HK.out with h0 | ⟨g, rfl, hin⟩
        · rw [h0] at hlt; simp at hlt
        have d1 := hin k hlt
        have hty : isTypeB ks[k] = true := HALL.out _ (List.getElem_mem hlt)
        clear hin t1
        go_wp2_with (go_at_call 62; refine (isType_any _ _).mono ?_; rintro e w' ⟨rfl, rfl⟩)
        go_round
        case rel => exact ⟨k + 1, by omega, by go_num⟩
        case measure => simp [intOf]; omega
      · rcases t1 with t1 | ⟨t1, t2⟩
        all_goals
          go_wp2_with (first | (go_at_call 63; refine (refuse_any _ _ _ _).mono ?_; rintro e w1 ⟨eb, rfl, hin1, hb1⟩))
          go_ret2
          exact ⟨eb, rfl, hin1, hb1⟩

set_option maxHeartbeats 400000 in
theorem new_bad (sa : Option Addr) (cap : Nat) (ks : List Int) (w : World) (hg : ErrType w) (hks : KindsAt w sa ks) (hl : ks.length ≤ 9000000) (hf : (schemaFault ks).1 ≠ 0) :
    Calls Tryd.prog 24 #[.slice sa ks.length cap] w fun e w' => ∃ fb, e = .returned (.tuple #[.pointer none, .iface 100 (.pointer (some ⟨fb, 0, none⟩))]) ∧ FaultAt w' (.iface 100 (.pointer (some ⟨fb, 0, none⟩))) 1 (schemaFault ks).2 ∧ Below w.heap.size w w' := by
  go_enter Tryd.func24, Tryd.ntmps24
  go_wp2_with fail
  refine (storeNew_bad sa cap ks w hks hl hf).mono ?_
  rintro e w1 ⟨eb, rfl, hin, hb⟩
  go_wp2_with fail
  refine (faultIn_err _ _ _ _ (hg.below hb) hin).mono ?_
  rintro e w2 ⟨fb, rfl, hfa, hb2⟩
  go_wp2
  go_ret2
  exact ⟨fb, rfl, hfa, hb.trans (hb2.mono hb.size)⟩

end Go.Proofs.YtcconhgbefhdeaaDoor

namespace Go.Proofs.YtcconhgbefhdeaaDoor
open Go.RowKit
attribute [local go_sem ↓] Go.wp_at_zero Go.wp_at_succ

/-- The first place below n where p says no. -/
def firstBad (p : Nat → Bool) : Nat → Option Nat
  | 0 => none
  | n + 1 => match firstBad p n with
    | some i => some i
    | none => if p n then none else some n

theorem firstBad_none (p : Nat → Bool) (n : Nat) (h : firstBad p n = none) : ∀ i, i < n → p i = true := by
  induction n with
  | zero => intro i hi; omega
  | succ n ih =>
    unfold firstBad at h
    cases hx : firstBad p n with
    | some j => rw [hx] at h; simp at h
    | none =>
      rw [hx] at h
      intro i hi
      by_cases hin : i < n
      · exact ih hx i hin
      · have : i = n := by omega
        subst this
        cases hp : p i
        · rw [hp] at h; simp at h
        · rfl

theorem firstBad_some (p : Nat → Bool) (n i : Nat) (h : firstBad p n = some i) : i < n ∧ p i = false ∧ ∀ j, j < i → p j = true := by
  induction n with
  | zero => simp [firstBad] at h
  | succ n ih =>
    unfold firstBad at h
    cases hx : firstBad p n with
    | some j =>
      rw [hx] at h
      simp at h
      subst h
      obtain ⟨h1, h2⟩ := ih hx
      exact ⟨by omega, h2⟩
    | none =>
      rw [hx] at h
      cases hp : p n
      · rw [hp] at h
        simp at h
        subst h
        exact ⟨by omega, hp, fun j hj => firstBad_none p n hx j hj⟩
      · rw [hp] at h; simp at h

def fitAt (ks : List Int) (r : List (Int × ByteArray)) (i : Nat) : Bool := fitsB (ks.getD i 0) (r.getD i (0, .empty)).1 (r.getD i (0, .empty)).2

/-- P4, ahead of the room. -/
def rowFault (ks : List Int) (r : List (Int × ByteArray)) : Int × Int :=
  if r.length ≠ ks.length then (2, -1) else match firstBad (fitAt ks r) ks.length with
    | some i => (2, i)
    | none => (0, 0)

theorem rowFault_ok (ks : List Int) (r : List (Int × ByteArray)) (h : (rowFault ks r).1 = 0) : FitsRow ks r := by
  unfold rowFault at h
  split at h
  · simp at h
  · rename_i hl
    cases hb : firstBad (fitAt ks r) ks.length with
    | some i => rw [hb] at h; simp at h
    | none =>
      have hl' : r.length = ks.length := by simpa using hl
      refine ⟨hl', fun i h1 h2 => ?_⟩
      have := firstBad_none _ _ hb i h1
      unfold fitAt at this
      simpa [List.getD, h1, h2] using this

def RowAt (w : World) (ra : Option Addr) (r : List (Int × ByteArray)) : Prop := r = [] ∨ ∃ g, ra = some ⟨g, 0, none⟩ ∧ RowIn w g r

set_option maxHeartbeats 400000 in
theorem check_len (bs sc scap : Nat) (ks : List Int) (r : List (Int × ByteArray)) (ra : Option Addr) (cap : Nat) (w : World) (hs : w.cell? ⟨bs, 0, none⟩ = some (.slice (some ⟨sc, 0, none⟩) ks.length scap)) (hne : r.length ≠ ks.length) :
    Calls Tryd.prog 65 #[.pointer (some ⟨bs, 0, none⟩), .slice ra r.length cap] w fun e w' => ∃ eb, e = .returned (.iface 150 (.pointer (some ⟨eb, 0, none⟩))) ∧ InnerErr w' (.iface 150 (.pointer (some ⟨eb, 0, none⟩))) 2 (-1) ∧ Below w.heap.size w w' := by
  have hn : ((r.length : Int) != (ks.length : Int)) = true := by rw [bne_iff_ne]; omega
  go_enter Tryd.func65, Tryd.ntmps65
  go_wp2_with (first | (go_at_call 63; refine (refuse_any _ _ _ _).mono ?_; rintro e w1 ⟨eb, rfl, hin1, hb1⟩))
  go_ret
  exact ⟨eb, rfl, hin1, hb1⟩

set_option maxHeartbeats 1000000 in
theorem check_fit (bs sc scap : Nat) (ks : List Int) (r : List (Int × ByteArray)) (g cap : Nat) (w : World) (hs : w.cell? ⟨bs, 0, none⟩ = some (.slice (some ⟨sc, 0, none⟩) ks.length scap)) (hks : KindsIn w sc ks)
    (hin : RowIn w g r) (hk6 : ks.length ≤ 6) (hlen : r.length = ks.length) (i : Nat) (hb : firstBad (fitAt ks r) ks.length = some i) :
    Calls Tryd.prog 65 #[.pointer (some ⟨bs, 0, none⟩), .slice (some ⟨g, 0, none⟩) r.length cap] w fun e w' => ∃ eb, e = .returned (.iface 150 (.pointer (some ⟨eb, 0, none⟩))) ∧ InnerErr w' (.iface 150 (.pointer (some ⟨eb, 0, none⟩))) 2 i ∧ Below w.heap.size w w' := by
  obtain ⟨hi, hbad, hgood⟩ := firstBad_some _ _ _ hb
  have hbs : bs < w.heap.size := World.block_lt_of_cell? w ⟨bs, 0, none⟩ hs
  have hne : ((r.length : Int) == (r.length : Int)) = true := by simp
  have hg : g < w.heap.size := hin.lt (by omega)
  have hsc : sc < w.heap.size := hks.lt (by omega)
  rw [← hlen] at hs
  have HIN : Hid (RowIn w g r) := hin
  have HKS : Hid (KindsIn w sc ks) := hks
  have HB : Hid (fitAt ks r i = false) := hbad
  have HG : Hid (∀ j, j < i → fitAt ks r j = true) := hgood
  have HL : Hid (r.length = ks.length) := hlen
  have hir : i < r.length := by omega
  have hr6 : r.length ≤ 6 := by omega
  clear hin hks hbad hgood hb hlen hk6 hi
  go_enter Tryd.func65, Tryd.ntmps65
  go_wp2_with fail
  go_loopw [18] (fun x wr => ∃ k : Nat, k ≤ i ∧ x = .int .i64 k ∧ Below w.heap.size w wr) (fun x _ => r.length - (intOf x).toNat)
  case atStart => exact ⟨0, Nat.zero_le _, rfl, Below.refl _ _⟩
  case round =>
    obtain ⟨k, hk, rfl, hB⟩ := hrel
    have hlt : k < r.length := by omega
    have hkk : k < ks.length := by have := HL.out; omega
    obtain ⟨c1, c2⟩ := HIN.out k hlt
    have hz := hB.size
    have d1 : wr.cell? ⟨g, k * 2, none⟩ = some (.int .i64 r[k].1) := (hB.cell (p := ⟨g, k * 2, none⟩) hg).trans c1
    have d2 : wr.cell? ⟨g, k * 2 + 1, none⟩ = some (.string r[k].2) := (hB.cell (p := ⟨g, k * 2 + 1, none⟩) hg).trans c2
    have d3 : wr.cell? ⟨bs, 0, none⟩ = some (.slice (some ⟨sc, 0, none⟩) r.length scap) := (hB.cell (p := ⟨bs, 0, none⟩) hbs).trans hs
    have d4 : wr.cell? ⟨sc, k, none⟩ = some (.int .i64 ks[k]) := (hB.cell (p := ⟨sc, k, none⟩) hsc).trans (HKS.out k hkk)
    have hfe : fitAt ks r k = fitsB ks[k] r[k].1 r[k].2 := by unfold fitAt; simp [List.getD, hlt, hkk]
    have hk0 : (0 : Int) ≤ (k : Int) := by omega
    have hk1 : (k : Int) < (r.length : Int) := by omega
    have n1 := World.new_ne _ _ d3
    have n2 := World.new_ne _ _ d4
    have HFE : Hid (fitAt ks r k = fitsB ks[k] r[k].1 r[k].2) := hfe
    clear c1 c2 hfe
    generalize ks[k] = kk at *
    generalize r[k].1 = rn at *
    generalize r[k].2 = rs at *
    by_cases hki : k < i
    · have hf : fitsB kk rn rs = true := by rw [← HFE.out]; exact HG.out k hki
      go_wp2_with fail
      go_region_held3 (fun w' => w'.cell? ⟨wr.heap.size, 0, none⟩ = some (.int .i64 rn) ∧ w'.cell? ⟨wr.heap.size, 1, none⟩ = some (.string rs) ∧ w'.cell? ⟨bs, 0, none⟩ = some (.slice (some ⟨sc, 0, none⟩) r.length scap) ∧ w'.cell? ⟨sc, k, none⟩ = some (.int .i64 kk)) (go_keep)
        (first | (go_at_call 80; refine (fits_any _ _ _ _).mono ?_; rintro e w1 ⟨rfl, rfl⟩))
      go_wp2
      go_roundw
      case rel => exact ⟨k + 1, by omega, by go_num, (((hB.alloc (by omega) _).alloc (by simp; omega) _)).drew⟩
      case measure => simp [intOf]; omega
    · have hke : k = i := by omega
      subst hke
      have hf : fitsB kk rn rs = false := by rw [← HFE.out]; exact HB.out
      go_wp2_with fail
      go_region_held3 (fun w' => w'.cell? ⟨wr.heap.size, 0, none⟩ = some (.int .i64 rn) ∧ w'.cell? ⟨wr.heap.size, 1, none⟩ = some (.string rs) ∧ w'.cell? ⟨bs, 0, none⟩ = some (.slice (some ⟨sc, 0, none⟩) r.length scap) ∧ w'.cell? ⟨sc, k, none⟩ = some (.int .i64 kk)) (go_keep)
        (first | (go_at_call 80; refine (fits_any _ _ _ _).mono ?_; rintro e w1 ⟨rfl, rfl⟩))
      go_wp2_with (first | (go_at_call 63; refine (refuse_any _ _ _ _).mono ?_; rintro e w1 ⟨eb, rfl, hin1, hb1⟩))
      go_ret
      exact ⟨eb, rfl, hin1, (((hB.alloc (by omega) _).alloc (by simp; omega) _)).drew.trans (hb1.mono (by simp; omega))⟩

set_option maxRecDepth 100000 in
set_option maxHeartbeats 400000 in
theorem storeAppend_bad (base bs : Nat) (ks : List Int) (L : List (Nat × List (Int × ByteArray))) (sv fv : Value) (r : List (Int × ByteArray)) (ra : Option Addr) (cap : Nat) (w : World) (h : StoreAt w base bs ks L sv fv) (hk : 0 < ks.length) (hk6 : ks.length ≤ 6) (hin : RowAt w ra r) (hf : (rowFault ks r).1 ≠ 0) :
    Calls Tryd.prog 44 #[.pointer (some ⟨bs, 0, none⟩), .slice ra r.length cap] w fun e w' => ∃ eb, e = .returned (.iface 150 (.pointer (some ⟨eb, 0, none⟩))) ∧ InnerErr w' (.iface 150 (.pointer (some ⟨eb, 0, none⟩))) 2 (rowFault ks r).2 ∧ Below w.heap.size w w' := by
  obtain ⟨sc, scap, rfl, hkin, _, _, _⟩ := h.kinds hk
  have c0 : w.cell? ⟨bs, 0, none⟩ = some (.slice (some ⟨sc, 0, none⟩) ks.length scap) := by rw [cell_of_row _ _ _ _ _ _ h.blk]; rfl
  have key : Calls Tryd.prog 65 #[.pointer (some ⟨bs, 0, none⟩), .slice ra r.length cap] w fun e w' => ∃ eb, e = .returned (.iface 150 (.pointer (some ⟨eb, 0, none⟩))) ∧ InnerErr w' (.iface 150 (.pointer (some ⟨eb, 0, none⟩))) 2 (rowFault ks r).2 ∧ Below w.heap.size w w' := by
    by_cases hn : r.length ≠ ks.length
    · have e : (rowFault ks r).2 = -1 := by unfold rowFault; rw [if_pos hn]
      rw [e]
      exact check_len bs sc scap ks r ra cap w c0 hn
    · cases hb : firstBad (fitAt ks r) ks.length with
      | none => exact absurd (by unfold rowFault; rw [if_neg hn, hb]) hf
      | some i =>
        have e : (rowFault ks r).2 = (i : Int) := by unfold rowFault; rw [if_neg hn, hb]
        have hl' : r.length = ks.length := by simpa using hn
        rcases hin with h0 | ⟨g, rfl, hrow⟩
        · rw [h0] at hl'; simp at hl'; omega
        rw [e]
        exact check_fit bs sc scap ks r g cap w c0 hkin hrow hk6 hl' i hb
  have KEY : Hid (Calls Tryd.prog 65 #[.pointer (some ⟨bs, 0, none⟩), .slice ra r.length cap] w fun e w' => ∃ eb, e = .returned (.iface 150 (.pointer (some ⟨eb, 0, none⟩))) ∧ InnerErr w' (.iface 150 (.pointer (some ⟨eb, 0, none⟩))) 2 (rowFault ks r).2 ∧ Below w.heap.size w w') := key
  clear key hkin hin h c0
  go_enter Tryd.func44, Tryd.ntmps44
  go_wp2_with fail
  refine KEY.out.mono ?_
  rintro e w1 ⟨eb, rfl, hin1, hb1⟩
  go_wp2
  go_ret
  exact ⟨eb, rfl, hin1, hb1⟩

set_option maxRecDepth 100000 in
set_option maxHeartbeats 400000 in
theorem storeAppend_full (base bs : Nat) (ks : List Int) (L : List (Nat × List (Int × ByteArray))) (sv fv : Value) (r : List (Int × ByteArray)) (g cap : Nat) (w : World) (h : StoreAt w base bs ks L sv fv)
    (hL : L.length = 1000) (hin : RowIn w g r) (hk : 0 < ks.length) (hr : r.length ≤ 1000) (hfit : FitsRow ks r) :
    Calls Tryd.prog 44 #[.pointer (some ⟨bs, 0, none⟩), .slice (some ⟨g, 0, none⟩) r.length cap] w fun e w' => ∃ eb, e = .returned (.iface 150 (.pointer (some ⟨eb, 0, none⟩))) ∧ InnerErr w' (.iface 150 (.pointer (some ⟨eb, 0, none⟩))) 6 0 ∧ Below w.heap.size w w' := by
  obtain ⟨sc, scap, rfl, hkin, _, _, _⟩ := h.kinds hk
  obtain ⟨fa, fc, rfl⟩ : ∃ fa fc, fv = .slice fa 1000 fc := by
    rcases h.rows.own.2 with ⟨_, h2⟩ | ⟨gg, cp, _, h1, _⟩
    · omega
    · exact ⟨_, cp, by rw [h1, hL]⟩
  have hbs : bs < w.heap.size := (Array.getElem?_eq_some_iff.1 h.blk).1
  have c0 : w.cell? ⟨bs, 0, none⟩ = some (.slice (some ⟨sc, 0, none⟩) ks.length scap) := by rw [cell_of_row _ _ _ _ _ _ h.blk]; rfl
  have c1 : w.cell? ⟨bs, 1, none⟩ = some (.slice fa 1000 fc) := by rw [cell_of_row _ _ _ _ _ _ h.blk]; rfl
  go_enter Tryd.func44, Tryd.ntmps44
  go_wp2_with fail
  refine (check_ok bs sc scap ks r g cap w c0 hkin hin hr hfit).mono ?_
  rintro e w1 ⟨rfl, hb1⟩
  have k1 : w1.cell? ⟨bs, 1, none⟩ = some (.slice fa 1000 fc) := (hb1.cell (p := ⟨bs, 1, none⟩) hbs).trans c1
  clear c0 c1
  go_wp2_with (first | (go_at_call 63; refine (refuse_any _ _ _ _).mono ?_; rintro e w2 ⟨eb, rfl, hin1, hb2⟩))
  go_ret
  exact ⟨eb, rfl, hin1, hb1.trans (hb2.mono hb1.size)⟩

/-- P4. -/
def appendFault (ks : List Int) (r : List (Int × ByteArray)) (n : Nat) : Int × Int :=
  if (rowFault ks r).1 ≠ 0 then (2, (rowFault ks r).2) else if n < 1000 then (0, 0) else (6, 0)

set_option maxRecDepth 100000 in
set_option maxHeartbeats 400000 in
theorem tableAppend_bad (base bt bs : Nat) (ks : List Int) (L : List (Nat × List (Int × ByteArray))) (sv fv : Value) (r : List (Int × ByteArray)) (ra : Option Addr) (cap : Nat) (w : World) (hgt : ErrType w) (h : TableAt w base bt bs ks L sv fv)
    (hL : L.length ≤ 1000) (hk : 0 < ks.length) (hk6 : ks.length ≤ 6) (hin : RowAt w ra r) (hf : (appendFault ks r L.length).1 ≠ 0) :
    Calls Tryd.prog 25 #[.pointer (some ⟨bt, 0, none⟩), .slice ra r.length cap] w fun e w' => ∃ fb, e = .returned (.iface 100 (.pointer (some ⟨fb, 0, none⟩))) ∧ FaultAt w' (.iface 100 (.pointer (some ⟨fb, 0, none⟩))) (appendFault ks r L.length).1 (appendFault ks r L.length).2 ∧ Below w.heap.size w w' := by
  have c0 : w.cell? ⟨bt, 0, none⟩ = some (.pointer (some ⟨bs, 0, none⟩)) := by rw [cell_of_row _ _ _ _ _ _ h.tab]; rfl
  have key : Calls Tryd.prog 44 #[.pointer (some ⟨bs, 0, none⟩), .slice ra r.length cap] w fun e w' => ∃ eb, e = .returned (.iface 150 (.pointer (some ⟨eb, 0, none⟩))) ∧ InnerErr w' (.iface 150 (.pointer (some ⟨eb, 0, none⟩))) (appendFault ks r L.length).1 (appendFault ks r L.length).2 ∧ Below w.heap.size w w' := by
    by_cases h1 : (rowFault ks r).1 ≠ 0
    · have e : appendFault ks r L.length = (2, (rowFault ks r).2) := by unfold appendFault; rw [if_pos h1]
      rw [e]
      exact storeAppend_bad base bs ks L sv fv r ra cap w h.sto hk hk6 hin h1
    · have h1' : (rowFault ks r).1 = 0 := by simpa using h1
      have hfit := rowFault_ok ks r h1'
      by_cases h2 : L.length < 1000
      · exact absurd (by unfold appendFault; rw [if_neg h1, if_pos h2]) hf
      · have e : appendFault ks r L.length = (6, 0) := by unfold appendFault; rw [if_neg h1, if_neg h2]
        rw [e]
        have hlr := hfit.1
        rcases hin with h0 | ⟨g, rfl, hrow⟩
        · rw [h0] at hlr; simp at hlr; omega
        exact storeAppend_full base bs ks L sv fv r g cap w h.sto (by omega) hrow hk (by omega) hfit
  generalize appendFault ks r L.length = af at *
  have KEY : Hid (Calls Tryd.prog 44 #[.pointer (some ⟨bs, 0, none⟩), .slice ra r.length cap] w fun e w' => ∃ eb, e = .returned (.iface 150 (.pointer (some ⟨eb, 0, none⟩))) ∧ InnerErr w' (.iface 150 (.pointer (some ⟨eb, 0, none⟩))) af.1 af.2 ∧ Below w.heap.size w w') := key
  clear key hin h
  go_enter Tryd.func25, Tryd.ntmps25
  go_wp2_with fail
  refine KEY.out.mono ?_
  rintro e w1 ⟨eb, rfl, hin1, hb1⟩
  go_wp2_with fail
  refine (faultIn_err _ _ _ _ (hgt.below hb1) hin1).mono ?_
  rintro e w2 ⟨fb, rfl, hfa, hb2⟩
  go_wp2
  go_ret
  exact ⟨fb, rfl, hfa, hb1.trans (hb2.mono hb1.size)⟩

end Go.Proofs.YtcconhgbefhdeaaDoor

namespace Go.Proofs.YtcconhgbefhdeaaDoor
open Go.RowKit
attribute [local go_sem ↓] Go.wp_at_zero Go.wp_at_succ

/-- A test. -/
structure Tst where
  dO : Int
  col : Int
  n : Int
  s : ByteArray

def Tst.agg (t : Tst) : Value := .agg #[.int .i64 t.dO, .int .i64 t.col, .int .i64 t.n, .string t.s]

set_option maxHeartbeats 1000000 in
theorem wrong_cmp (sc scap : Nat) (ks : List Int) (d n : Int) (c : Nat) (s : ByteArray) (a : Int) (w : World) (hks : KindsIn w sc ks) (hd : d = 1 ∨ d = 2 ∨ d = 3 ∨ d = 4 ∨ d = 5 ∨ d = 6) (hc : c < ks.length) (hf : fitsB ks[c] n s = true) :
    Calls Tryd.prog 66 #[.slice (some ⟨sc, 0, none⟩) ks.length scap, .agg #[.int .i64 d, .int .i64 c, .int .i64 n, .string s], .int .i64 a] w fun e w' => e = .returned (.string ⟨#[]⟩) ∧ Below w.heap.size w w' := by
  have k1 := hks c hc
  have hsc : sc < w.heap.size := World.block_lt_of_cell? w ⟨sc, c, none⟩ k1
  generalize ks[c] = kk at k1 hf
  have c1 : (0 : Int) ≤ (c : Int) := by omega
  have c2 : (c : Int) < (ks.length : Int) := by omega
  have c3 : ¬ ((c : Int) < 0) := by omega
  have c4 : ¬ ((ks.length : Int) ≤ (c : Int)) := by omega
  have n1 := World.new_ne _ _ k1
  have HK : Hid (KindsIn w sc ks) := hks
  clear hks
  generalize ks.length = m at *
  rcases hd with rfl | rfl | rfl | rfl | rfl | rfl
  all_goals
    go_enter Tryd.func66, Tryd.ntmps66
    go_wp2_with fail
    go_region_held3 (fun w' => w'.cell? ⟨w.heap.size, 1, none⟩ = some (.int .i64 c) ∧ w'.cell? ⟨w.heap.size, 2, none⟩ = some (.int .i64 n) ∧ w'.cell? ⟨w.heap.size, 3, none⟩ = some (.string s) ∧ w'.cell? ⟨sc, c, none⟩ = some (.int .i64 kk)) (go_keep)
      (first | (go_at_call 80; refine (fits_any _ _ _ _).mono ?_; rintro e w1 ⟨rfl, rfl⟩))
    go_wp2
    go_ret
    exact ⟨rfl, (((Below.refl _ _).alloc (Nat.le_refl _) _).alloc (by simp) _).drew⟩

set_option maxHeartbeats 1000000 in
theorem wrong_not (sv : Value) (c n : Int) (s : ByteArray) (d a : Int) (w : World) (hd : d = 7 ∨ d = 8 ∨ d = 9) (ha : takesI d ≤ a) :
    Calls Tryd.prog 66 #[sv, .agg #[.int .i64 d, .int .i64 c, .int .i64 n, .string s], .int .i64 a] w fun e w' => e = .returned (.string ⟨#[]⟩) ∧ Below w.heap.size w w' := by
  have h2 : ¬ (a < takesI d) := by omega
  rcases hd with rfl | rfl | rfl
  all_goals
    go_enter Tryd.func66, Tryd.ntmps66
    go_wp2_with (go_at_call 67; refine (takes_any _ _).mono ?_; rintro e w' ⟨rfl, rfl⟩)
    go_ret
    exact ⟨rfl, (Below.refl _ _).alloc (Nat.le_refl _) _⟩

end Go.Proofs.YtcconhgbefhdeaaDoor
