import Derived.Test.YtcconhgbefhdeaaDoorSieveErr
namespace Go.Proofs.YtcconhgbefhdeaaDoor
open Go.RowKit

set_option maxRecDepth 100000 in
set_option maxHeartbeats 400000 in
theorem storeScan_bad (base bs : Nat) (ks : List Int) (L : List (Nat × List (Int × ByteArray))) (sv fv : Value) (tcap : Nat) (ta : Option Addr) (T : List Tst) (w : World) (h : StoreAt w base bs ks L sv fv) (hk : 0 < ks.length) (hT : TestsAt w ta T) (hf : (testFault ks T).1 ≠ 0) :
    Calls Tryd.prog 29 #[.pointer (some ⟨bs, 0, none⟩), .slice ta T.length tcap] w fun e w' => ∃ eb, e = .returned (.tuple #[.slice none 0 0, .iface 150 (.pointer (some ⟨eb, 0, none⟩))]) ∧ InnerErr w' (.iface 150 (.pointer (some ⟨eb, 0, none⟩))) 3 (testFault ks T).2 ∧ Below w.heap.size w w' := by
  obtain ⟨sc, scap, rfl, hkin, _, _, _⟩ := h.kinds hk
  have c0 : w.cell? ⟨bs, 0, none⟩ = some (.slice (some ⟨sc, 0, none⟩) ks.length scap) := by rw [cell_of_row _ _ _ _ _ _ h.blk]; rfl
  go_enter Tryd.func29, Tryd.ntmps29
  go_wp2_with fail
  refine (sieveNew_bad sc scap tcap ta ks T w hk hkin hT hf).mono ?_
  rintro e w1 ⟨eb, rfl, hin1, hb1⟩
  clear c0 hf
  go_wp2
  go_ret2
  exact ⟨eb, rfl, hin1.below ((Below.refl _ _).alloc (Nat.le_refl _) _), hb1.alloc hb1.size _⟩

set_option maxRecDepth 100000 in
set_option maxHeartbeats 400000 in
theorem scan_bad (base bt bs : Nat) (ks : List Int) (L : List (Nat × List (Int × ByteArray))) (sv fv : Value) (tcap : Nat) (ta : Option Addr) (T : List Tst) (w : World) (hgt : ErrType w) (h : TableAt w base bt bs ks L sv fv) (hk : 0 < ks.length) (hT : TestsAt w ta T) (hf : (testFault ks T).1 ≠ 0) :
    Calls Tryd.prog 12 #[.pointer (some ⟨bt, 0, none⟩), .slice ta T.length tcap] w fun e w' => ∃ fb, e = .returned (.tuple #[.slice none 0 0, .iface 100 (.pointer (some ⟨fb, 0, none⟩))]) ∧ FaultAt w' (.iface 100 (.pointer (some ⟨fb, 0, none⟩))) 3 (testFault ks T).2 ∧ Below w.heap.size w w' := by
  have c0 : w.cell? ⟨bt, 0, none⟩ = some (.pointer (some ⟨bs, 0, none⟩)) := by rw [cell_of_row _ _ _ _ _ _ h.tab]; rfl
  go_enter Tryd.func12, Tryd.ntmps12
  go_wp2_with fail
  refine (storeScan_bad base bs ks L sv fv tcap ta T w h.sto hk hT hf).mono ?_
  rintro e w1 ⟨eb, rfl, hin1, hb1⟩
  clear c0 hf
  go_wp2_with fail
  refine (faultIn_err _ _ _ _ (hgt.below hb1) hin1).mono ?_
  rintro e w2 ⟨fb, rfl, hfa, hb2⟩
  go_wp2
  go_ret2
  exact ⟨fb, rfl, hfa, hb1.trans (hb2.mono hb1.size)⟩

end Go.Proofs.YtcconhgbefhdeaaDoor
