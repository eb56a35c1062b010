import Derived.Test.YtcconhgbefhdeaaDoorScan
import Derived.Test.YtcconhgbefhdeaaDoorNew
namespace Go.Proofs.YtcconhgbefhdeaaDoor
open Go.RowKit

theorem StoreAt.form {w : World} {base bs : Nat} {ks : List Int} {L : List (Nat × List (Int × ByteArray))} {sv fv : Value} (h : StoreAt w base bs ks L sv fv) : ∃ fa fc, fv = .slice fa L.length fc := by
  rcases h.rows.own.2 with ⟨h1, h2⟩ | ⟨gg, cp, _, h1, _⟩
  · exact ⟨none, 0, by rw [h1, h2]⟩
  · exact ⟨_, cp, h1⟩

set_option maxHeartbeats 400000 in
theorem scan_ok (base bt bs : Nat) (ks : List Int) (L : List (Nat × List (Int × ByteArray))) (sv fv : Value) (tcap : Nat) (ta : Option Addr) (T : List Tst) (w : World) (h : TableAt w base bt bs ks L sv fv)
    (hL : L.length ≤ 1000) (hk : 0 < ks.length) (hk6 : ks.length ≤ 6) (hrow : ∀ p ∈ L, p.2.length = ks.length ∧ ∀ x ∈ p.2, x.2.size ≤ 1000000) (hT : TestsAt w ta T) (hv : ValidT ks T) :
    Calls Tryd.prog 12 #[.pointer (some ⟨bt, 0, none⟩), .slice ta T.length tcap] w fun e w' => ∃ v M, e = .returned (.tuple #[v, .nilIface]) ∧
      RowsAt w' w.heap.size v M ∧ M.map Prod.snd = (L.map Prod.snd).filter (fun r => passB ks r T) ∧ Below w.heap.size w w' ∧ (M.map Prod.fst).Nodup := by
  have c0 : w.cell? ⟨bt, 0, none⟩ = some (.pointer (some ⟨bs, 0, none⟩)) := by rw [cell_of_row _ _ _ _ _ _ h.tab]; rfl
  obtain ⟨fa, fc, rfl⟩ := h.sto.form
  go_enter Tryd.func12, Tryd.ntmps12
  go_wp2_with fail
  refine (storeScan_ok base bs ks L sv fa fc tcap ta T w h.sto hL hk hk6 hrow hT hv).mono ?_
  rintro e w1 ⟨v, M, rfl, hM, hMe, hb, hnd⟩
  have HM : Hid (M.map Prod.snd = (L.map Prod.snd).filter (fun r => passB ks r T)) := hMe
  clear hMe c0
  go_wp2_with fail
  refine (faultIn_nil _).mono ?_
  rintro e w2 ⟨rfl, hb2⟩
  go_wp2
  go_ret2
  exact ⟨v, M, rfl, hM.keepOn (fun k hk _ => hb2.block k hk), HM.out, hb.trans (hb2.mono hb.size), hnd⟩

/-- A row of raw numbers. -/
structure Raw where
  n : Int
  bits : Int
  s : ByteArray
  flag : Int

def cutS (s : ByteArray) : ByteArray := if 40 < s.size then s.extract 0 40 else s
def Raw.row (r : Raw) : List (Int × ByteArray) := [(r.n, .empty), (r.bits, .empty), (0, cutS r.s), (pickI r.flag 2, .empty)]

set_option maxHeartbeats 400000 in
theorem schema_ok (w : World) : Calls Tryd.prog 26 #[] w fun e w' => e = .returned (.slice (some ⟨w.heap.size, 0, none⟩) 4 4) ∧ w' = w.alloc (.cells #[.int .i64 1, .int .i64 2, .int .i64 3, .int .i64 4] 3) := by
  go_enter Tryd.func26, Tryd.ntmps26
  go_wp2
  go_ret
  exact ⟨rfl, rfl⟩

theorem row_close {w : World} {o1 : Obj} (n b : Int) (c : ByteArray) (p : Int) (r : Raw) (h : r.row = [(n, .empty), (b, .empty), (0, c), (p, .empty)]) :
    RowBlk ((w.alloc o1).alloc (.cells #[.int .i64 n, .string ⟨#[]⟩, .int .i64 b, .string ⟨#[]⟩, .int .i64 0, .string c, .int .i64 p, .string ⟨#[]⟩] 30)).drew (w.heap.size + 1, r.row) ∧
    Below w.heap.size w ((w.alloc o1).alloc (.cells #[.int .i64 n, .string ⟨#[]⟩, .int .i64 b, .string ⟨#[]⟩, .int .i64 0, .string c, .int .i64 p, .string ⟨#[]⟩] 30)).drew := by
  refine ⟨?_, (((Below.refl _ _).alloc (Nat.le_refl _) _).alloc (by simp) _).drew⟩
  rw [h]
  exact new_second w _ _

set_option maxHeartbeats 1000000 in
theorem row_ok (r : Raw) (w : World) (f1 : -9223372036854775808 ≤ r.flag) (f2 : r.flag ≤ 9223372036854775807) :
    Calls Tryd.prog 11 #[.agg #[.int .i64 r.n, .int .i64 r.bits, .string r.s, .int .i64 r.flag]] w fun e w' => e = .returned (.slice (some ⟨w.heap.size + 1, 0, none⟩) 4 4) ∧ RowBlk w' (w.heap.size + 1, r.row) ∧ Below w.heap.size w w' := by
  by_cases h : (40 : Int) < (r.s.size : Int)
  · have hcut : cutS r.s = r.s.extract 0 40 := by unfold cutS; rw [if_pos (by omega)]
    have HC : Hid (r.row = [(r.n, .empty), (r.bits, .empty), (0, r.s.extract 0 40), (pickI r.flag 2, .empty)]) := by unfold Raw.row Hid; rw [hcut]
    clear hcut
    go_enter Tryd.func11, Tryd.ntmps11
    go_wp2_with fail
    go_region_held3 (fun w' => w'.cell? ⟨w.heap.size, 0, none⟩ = some (.int .i64 r.n) ∧ w'.cell? ⟨w.heap.size, 1, none⟩ = some (.int .i64 r.bits) ∧ w'.cell? ⟨w.heap.size, 3, none⟩ = some (.int .i64 r.flag)) (go_keep)
      (first | (go_at_call 18; refine (pick_any _ _ _ f1 f2 (by omega) (by omega)).mono ?_; rintro e w1 ⟨rfl, rfl⟩))
    go_wp2
    go_ret
    exact ⟨rfl, row_close _ _ _ _ r HC.out⟩
  · have hcut : cutS r.s = r.s := by unfold cutS; rw [if_neg (by omega)]
    have HC : Hid (r.row = [(r.n, .empty), (r.bits, .empty), (0, r.s), (pickI r.flag 2, .empty)]) := by unfold Raw.row Hid; rw [hcut]
    clear hcut
    go_enter Tryd.func11, Tryd.ntmps11
    go_wp2_with fail
    go_region_held3 (fun w' => w'.cell? ⟨w.heap.size, 0, none⟩ = some (.int .i64 r.n) ∧ w'.cell? ⟨w.heap.size, 1, none⟩ = some (.int .i64 r.bits) ∧ w'.cell? ⟨w.heap.size, 3, none⟩ = some (.int .i64 r.flag)) (go_keep)
      (first | (go_at_call 18; refine (pick_any _ _ _ f1 f2 (by omega) (by omega)).mono ?_; rintro e w1 ⟨rfl, rfl⟩))
    go_wp2
    go_ret
    exact ⟨rfl, row_close _ _ _ _ r HC.out⟩

end Go.Proofs.YtcconhgbefhdeaaDoor
