import Derived.Test.YtcconhgbefhdeaaDoorStore
namespace Go.Proofs.YtcconhgbefhdeaaDoor
open Go.RowKit

set_option maxHeartbeats 400000 in
theorem as_nil (p : Addr) (w : World) :
    Calls Tryd.prog 48 #[.nilIface, .iface 102 (.pointer (some p))] w fun e w' => e = .returned (.bool false) ∧ w' = w := by
  go_enter Tryd.func48, Tryd.ntmps48
  go_wp2
  go_ret
  exact ⟨rfl, rfl⟩

set_option maxHeartbeats 400000 in
theorem faultIn_nil (w : World) :
    Calls Tryd.prog 30 #[.nilIface] w fun e w' => e = .returned .nilIface ∧ Below w.heap.size w w' := by
  go_enter Tryd.func30, Tryd.ntmps30
  go_wp2_with (go_at_call 48; refine (as_nil _ _).mono ?_; rintro e w' ⟨rfl, rfl⟩)
  go_ret
  exact ⟨rfl, (Below.refl _ _).alloc (Nat.le_refl _) _⟩

/-- A table in memory. -/
structure TableAt (w : World) (base bt bs : Nat) (ks : List Int) (L : List (Nat × List (Int × ByteArray))) (sv fv : Value) : Prop where
  tab : w.heap[bt]? = some (.cells #[.pointer (some ⟨bs, 0, none⟩)] 74 (0, 0))
  lo : base ≤ bt
  sto : StoreAt w base bs ks L sv fv

/-- The blocks in which a table lies. -/
def Foot (bt bs : Nat) (L : List (Nat × List (Int × ByteArray))) (sv fv : Value) (k : Nat) : Prop :=
  k = bt ∨ k = bs ∨ sv.ownBlock = some k ∨ fv.ownBlock = some k ∨ ∃ p ∈ L, p.1 = k

theorem own_keep {w w' : World} {base : Nat} {e : TypeId} {size : Nat} {v : Value} {n : Nat} {xs : List Value} (h : w.ownsRow base e size v n xs) (hb : ∀ k, k < w.heap.size → v.ownBlock = some k → w'.heap[k]? = w.heap[k]?) : w'.ownsRow base e size v n xs := by
  refine ⟨h.1, ?_⟩
  rcases h.2 with h1 | ⟨g, cap, cur, hv, hg, hh, rest⟩
  · exact .inl h1
  · refine .inr ⟨g, cap, cur, hv, hg, ?_, rest⟩
    rw [hb g (Array.getElem?_eq_some_iff.1 hh).1 (by rw [hv]; rfl)]
    exact hh

theorem RowsAt.keepOn {w w' : World} {base : Nat} {v : Value} {L : List (Nat × List (Int × ByteArray))} (h : RowsAt w base v L) (hb : ∀ k, k < w.heap.size → (v.ownBlock = some k ∨ ∃ p ∈ L, p.1 = k) → w'.heap[k]? = w.heap[k]?) : RowsAt w' base v L :=
  ⟨own_keep h.own (fun k hk e => hb k hk (.inl e)), fun p hp => by
    obtain ⟨h1, h2⟩ := h.blk p hp
    refine ⟨h1, ?_⟩
    unfold RowBlk at h2 ⊢
    rw [hb p.1 (Array.getElem?_eq_some_iff.1 h2).1 (.inr ⟨p, hp, rfl⟩)]
    exact h2⟩

theorem StoreAt.keepOn {w w' : World} {base bs : Nat} {ks : List Int} {L : List (Nat × List (Int × ByteArray))} {sv fv : Value} (h : StoreAt w base bs ks L sv fv)
    (hb : ∀ k, k < w.heap.size → (k = bs ∨ sv.ownBlock = some k ∨ fv.ownBlock = some k ∨ ∃ p ∈ L, p.1 = k) → w'.heap[k]? = w.heap[k]?) : StoreAt w' base bs ks L sv fv :=
  ⟨(hb bs (Array.getElem?_eq_some_iff.1 h.blk).1 (.inl rfl)).trans h.blk, h.lo, own_keep h.sch (fun k hk e => hb k hk (.inr (.inl e))), h.rows.keepOn (fun k hk e => hb k hk (.inr (.inr e)))⟩

theorem TableAt.keepOn {w w' : World} {base bt bs : Nat} {ks : List Int} {L : List (Nat × List (Int × ByteArray))} {sv fv : Value} (h : TableAt w base bt bs ks L sv fv)
    (hb : ∀ k, k < w.heap.size → Foot bt bs L sv fv k → w'.heap[k]? = w.heap[k]?) : TableAt w' base bt bs ks L sv fv :=
  ⟨(hb bt (Array.getElem?_eq_some_iff.1 h.tab).1 (.inl rfl)).trans h.tab, h.lo, h.sto.keepOn (fun k hk e => hb k hk (.inr e))⟩

theorem TableAt.below {w w' : World} {base bt bs : Nat} {ks : List Int} {L : List (Nat × List (Int × ByteArray))} {sv fv : Value} (h : TableAt w base bt bs ks L sv fv) (hb : Below w.heap.size w w') : TableAt w' base bt bs ks L sv fv :=
  h.keepOn (fun k hk _ => hb.block k hk)
theorem StoreAt.below {w w' : World} {base bs : Nat} {ks : List Int} {L : List (Nat × List (Int × ByteArray))} {sv fv : Value} (h : StoreAt w base bs ks L sv fv) (hb : Below w.heap.size w w') : StoreAt w' base bs ks L sv fv :=
  h.keepOn (fun k hk _ => hb.block k hk)

/-- The table's own block is none that an Append may turn. -/
theorem TableAt.far {w : World} {base bt bs : Nat} {ks : List Int} {L : List (Nat × List (Int × ByteArray))} {sv fv : Value} (h : TableAt w base bt bs ks L sv fv) : bt ∉ bs :: fv.ownBlock.toList := by
  intro hm
  rcases List.mem_cons.1 hm with e | e
  · have h1 := h.sto.blk
    rw [← e, h.tab] at h1
    simp at h1
  · have e' : fv.ownBlock = some bt := by simpa using e
    rcases h.sto.rows.own.2 with ⟨h1, _⟩ | ⟨gg, cp, cur, h1, _, h2, _⟩
    · rw [h1] at e'; cases e'
    · rw [h1] at e'
      simp only [Value.ownBlock, Option.some.injEq] at e'
      rw [e', h.tab] at h2
      simp at h2

set_option maxHeartbeats 400000 in
theorem tableAppend_ok (base bt bs : Nat) (ks : List Int) (L : List (Nat × List (Int × ByteArray))) (sv fv : Value) (r : List (Int × ByteArray)) (g cap : Nat) (w : World) (h : TableAt w base bt bs ks L sv fv) (hbase : base ≤ w.heap.size)
    (hL : L.length < 1000) (hin : RowIn w g r) (hk : 0 < ks.length) (hr : r.length ≤ 1000) (hfit : FitsRow ks r) (hs : ∀ p ∈ r, p.2.size ≤ 1000000) :
    Calls Tryd.prog 25 #[.pointer (some ⟨bt, 0, none⟩), .slice (some ⟨g, 0, none⟩) r.length cap] w fun e w' => e = .returned .nilIface ∧
      ∃ fv' g', TableAt w' base bt bs ks (L ++ [(g', r)]) sv fv' ∧ w.heap.size ≤ g' ∧ Fr (bs :: fv.ownBlock.toList) w w' ∧ (fv'.ownBlock = fv.ownBlock ∨ ∃ k, fv'.ownBlock = some k ∧ w.heap.size ≤ k) := by
  have c0 : w.cell? ⟨bt, 0, none⟩ = some (.pointer (some ⟨bs, 0, none⟩)) := by rw [cell_of_row _ _ _ _ _ _ h.tab]; rfl
  go_enter Tryd.func25, Tryd.ntmps25
  go_wp2_with fail
  refine (storeAppend_ok base bs ks L sv fv r g cap w h.sto hbase hL hin hk hr hfit hs).mono ?_
  rintro e w1 ⟨rfl, fv', g', hst, hg', hF, ho⟩
  have htab : w1.heap[bt]? = some (.cells #[.pointer (some ⟨bs, 0, none⟩)] 74 (0, 0)) := (hF.block bt (Array.getElem?_eq_some_iff.1 h.tab).1 h.far).trans h.tab
  have HO : Hid (fv'.ownBlock = fv.ownBlock ∨ ∃ k, fv'.ownBlock = some k ∧ w.heap.size ≤ k) := ho
  clear ho c0
  go_wp2_with fail
  refine (faultIn_nil _).mono ?_
  rintro e w2 ⟨rfl, hb2⟩
  go_wp2
  go_ret
  exact ⟨rfl, fv', g', TableAt.below ⟨htab, h.lo, hst⟩ hb2, hg', hF.then hb2, HO.out⟩

end Go.Proofs.YtcconhgbefhdeaaDoor
