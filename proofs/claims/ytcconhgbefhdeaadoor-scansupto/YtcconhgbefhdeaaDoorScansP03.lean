import Derived.Test.YtcconhgbefhdeaaDoorScansP02
import Derived.Test.YtcconhgbefhdeaaDoorScansP00
import Derived.Deep.QuietTactic
import Derived.BigQuiet
namespace Go.Proofs.YtcconhgbefhdeaaDoor
open Go.RowKit

def TestsIn (w : World) (g : Nat) (T : List Tst) : Prop :=
  ∀ i (h : i < T.length), w.cell? ⟨g, i * 4, none⟩ = some (.int .i64 T[i].dO) ∧ w.cell? ⟨g, i * 4 + 1, none⟩ = some (.int .i64 T[i].col) ∧ w.cell? ⟨g, i * 4 + 2, none⟩ = some (.int .i64 T[i].n) ∧ w.cell? ⟨g, i * 4 + 3, none⟩ = some (.string T[i].s)

theorem TestsIn.keep {w w' : World} {g : Nat} {T : List Tst} (h : TestsIn w g T) (hb : w'.heap[g]? = w.heap[g]?) : TestsIn w' g T := fun i hi => by
  obtain ⟨a, b, c, d⟩ := h i hi
  have e : ∀ o, w'.cell? ⟨g, o, none⟩ = w.cell? ⟨g, o, none⟩ := fun o => World.cell?_of_block (w := w) (a := ⟨g, o, none⟩) hb
  exact ⟨(e _).trans a, (e _).trans b, (e _).trans c, (e _).trans d⟩

theorem TestsIn.lt {w : World} {g : Nat} {T : List Tst} (h : TestsIn w g T) (hr : 0 < T.length) : g < w.heap.size :=
  World.block_lt_of_cell? w ⟨g, 0 * 4, none⟩ (h 0 hr).1

/-- A list of tests that is lent. -/
def TestsAt (w : World) (ta : Option Addr) (T : List Tst) : Prop := T = [] ∨ ∃ g, ta = some ⟨g, 0, none⟩ ∧ TestsIn w g T

theorem TestsAt.keep {w w' : World} {ta : Option Addr} {T : List Tst} (h : TestsAt w ta T) (hb : ∀ k, k < w.heap.size → w'.heap[k]? = w.heap[k]?) : TestsAt w' ta T := by
  rcases h with h | ⟨g, h1, h2⟩
  · exact .inl h
  · by_cases h0 : 0 < T.length
    · exact .inr ⟨g, h1, h2.keep (hb g (h2.lt h0))⟩
    · exact .inl (List.eq_nil_of_length_eq_zero (by omega))

def okT (ks : List Int) (t : Tst) (a : Int) : Prop :=
  ((t.dO = 1 ∨ t.dO = 2 ∨ t.dO = 3 ∨ t.dO = 4 ∨ t.dO = 5 ∨ t.dO = 6) ∧ ∃ c : Nat, t.col = c ∧ ∃ h : c < ks.length, fitsB ks[c] t.n t.s = true) ∨ ((t.dO = 7 ∨ t.dO = 8 ∨ t.dO = 9) ∧ takesI t.dO ≤ a)

def cntI : List Tst → Int → Int
  | [], c => c
  | t :: T, c => cntI T (c + (1 - takesI t.dO))

theorem cntI_append (A B : List Tst) (c : Int) : cntI (A ++ B) c = cntI B (cntI A c) := by
  induction A generalizing c with
  | nil => rfl
  | cons t A ih => exact ih _

theorem takesI_bd (d : Int) : 0 ≤ takesI d ∧ takesI d ≤ 2 := by unfold takesI; split <;> (try split) <;> omega

theorem cntI_bd (T : List Tst) (c : Int) : c - T.length ≤ cntI T c ∧ cntI T c ≤ c + T.length := by
  induction T generalizing c with
  | nil => simp [cntI]
  | cons t T ih =>
    have h1 := ih (c + (1 - takesI t.dO))
    have h2 := takesI_bd t.dO
    simp only [cntI, List.length_cons]
    omega

theorem cntI_succ (T : List Tst) (k : Nat) (h : k < T.length) : cntI (T.take (k + 1)) 0 = cntI (T.take k) 0 + (1 - takesI T[k].dO) := by
  rw [List.take_succ_eq_append_getElem h, cntI_append]; rfl

structure ValidT (ks : List Int) (T : List Tst) : Prop where
  ok : ∀ i (h : i < T.length), okT ks T[i] (cntI (T.take i) 0)
  one : T = [] ∨ cntI T 0 = 1
  few : T.length ≤ 40

theorem wrong_ok (sc scap : Nat) (ks : List Int) (t : Tst) (a : Int) (w : World) (hks : KindsIn w sc ks) (h : okT ks t a) :
    Calls Tryd.prog 66 #[.slice (some ⟨sc, 0, none⟩) ks.length scap, .agg #[.int .i64 t.dO, .int .i64 t.col, .int .i64 t.n, .string t.s], .int .i64 a] w fun e w' => e = .returned (.string ⟨#[]⟩) ∧ Below w.heap.size w w' := by
  rcases h with ⟨hd, c, hc, hl, hf⟩ | ⟨hd, ha⟩
  · rw [hc]; exact wrong_cmp sc scap ks t.dO t.n c t.s a w hks hd hl hf
  · exact wrong_not _ t.col t.n t.s t.dO a w hd ha

set_option maxHeartbeats 1000000 in
theorem sieveNew_ok (sc scap tcap : Nat) (ta : Option Addr) (ks : List Int) (T : List Tst) (w : World) (hk : 0 < ks.length) (hks : KindsIn w sc ks) (hT : TestsAt w ta T) (hv : ValidT ks T) :
    Calls Tryd.prog 45 #[.slice (some ⟨sc, 0, none⟩) ks.length scap, .slice ta T.length tcap] w fun e w' =>
      e = .returned (.tuple #[.agg #[.slice (some ⟨sc, 0, none⟩) ks.length scap, .slice ta T.length tcap], .nilIface]) ∧ Below w.heap.size w w' := by
  have h40 : ¬ ((40 : Int) < (T.length : Int)) := by have := hv.few; omega
  have hsc : sc < w.heap.size := hks.lt hk
  have HV : Hid (ValidT ks T) := hv
  have HT : Hid (TestsAt w ta T) := hT
  have HKS : Hid (KindsIn w sc ks) := hks
  clear hv hT hks
  go_enter Tryd.func45, Tryd.ntmps45
  go_wp2_with fail
  go_loopw [6, 17] (fun a i wr => ∃ k : Nat, k ≤ T.length ∧ i = .int .i64 k ∧ a = .int .i64 (cntI (T.take k) 0) ∧ Below (w.heap.size + 1) (w.alloc (.cells #[.slice none 0 0, .slice none 0 0] 92)) wr) (fun _ i _ => T.length - (intOf i).toNat)
  case atStart => exact ⟨0, Nat.zero_le _, rfl, rfl, Below.refl _ _⟩
  case round =>
    obtain ⟨k, hk, rfl, rfl, hB⟩ := hrel
    by_cases hlt : k < T.length
    · rcases HT.out with h0 | ⟨g, rfl, hin⟩
      · rw [h0] at hlt; simp at hlt
      have hg : g < w.heap.size := hin.lt (by omega)
      have hz := hB.size
      simp at hz
      obtain ⟨c1, c2, c3, c4⟩ := hin k hlt
      have e : ∀ o, wr.cell? ⟨g, o, none⟩ = w.cell? ⟨g, o, none⟩ := fun o => (hB.cell (p := ⟨g, o, none⟩) (by simp; omega)).trans (cell_alloc w _ g o hg)
      rw [← e] at c1 c2 c3 c4
      have hks1 : ∀ o, (wr.alloc o).heap[sc]? = w.heap[sc]? := fun o => (Below.heap_alloc _ _ _ (by omega)).trans ((hB.block sc (by omega)).trans (Below.heap_alloc _ _ _ hsc))
      have HK1 : Hid (∀ o, (wr.alloc o).heap[sc]? = w.heap[sc]?) := hks1
      have hbd := cntI_bd (T.take k) 0
      have htk := takesI_bd T[k].dO
      have hl : (T.take k).length ≤ 40 := by have := HV.out.few; simp; omega
      have HC : Hid (cntI (T.take (k + 1)) 0 = cntI (T.take k) 0 + (1 - takesI T[k].dO)) := cntI_succ T k hlt
      have HIN : Hid (TestsIn w g T) := hin
      clear e hks1 hin
      go_wp2_with fail
      refine (wrong_ok sc scap ks T[k] _ _ (HKS.out.keep (HK1.out _)) (HV.out.ok k hlt)).mono ?_
      rintro e w1 ⟨rfl, hb1⟩
      have k1 : w1.cell? ⟨wr.heap.size, 0, none⟩ = some (.int .i64 T[k].dO) := (hb1.cell (p := ⟨wr.heap.size, 0, none⟩) (by simp)).trans (by simp)
      clear c1 c2 c3 c4
      go_wp2_with (go_at_call 67; refine (takes_any _ _).mono ?_; rintro e w' ⟨rfl, rfl⟩)
      go_roundw
      case rel => exact ⟨k + 1, by omega, by go_num, by rw [HC.out], (hB.alloc (by omega) _).trans (hb1.mono (by simp; omega))⟩
      case measure => simp [intOf]; omega
    · have hke : k = T.length := by omega
      have HE : Hid (k = T.length) := hke
      have hz := hB.size
      simp at hz
      have hbox : wr.heap[w.heap.size]? = some (.cells #[.slice none 0 0, .slice none 0 0] 92 (0, 0)) := (hB.block _ (by omega)).trans (heap_alloc_new w _)
      have b0 : wr.cell? ⟨w.heap.size, 0, none⟩ = some (.slice none 0 0) := by rw [cell_of_row _ _ _ _ _ _ hbox]; rfl
      have b1 : wr.cell? ⟨w.heap.size, 1, none⟩ = some (.slice none 0 0) := by rw [cell_of_row _ _ _ _ _ _ hbox]; rfl
      have f0 : wr.frozen? ⟨w.heap.size, 0, none⟩ = false := by simp [World.frozen?, hbox]
      have f1 : wr.frozen? ⟨w.heap.size, 1, none⟩ = false := by simp [World.frozen?, hbox]
      have hone : (T.length : Int) ≤ 0 ∨ (cntI (T.take k) 0 == 1) = true := by
        rcases HV.out.one with h | h
        · left; rw [h]; simp
        · right; rw [hke, List.take_length, h]; rfl
      clear hke
      have hBw : Below w.heap.size w wr := ((Below.refl _ _).alloc (Nat.le_refl _) _).trans (hB.mono (by omega))
      generalize cntI (T.take k) 0 = cc at *
      rcases hone with h0 | h1
      all_goals
        go_wp2
        all_goals exact bodyPost_ret (v := .tuple #[.agg #[.slice (some ⟨sc, 0, none⟩) ks.length scap, .slice ta T.length tcap], .nilIface]) (by simp [results, Tryd.results45, go_sem, b0, b1]) rfl ⟨rfl, (hBw.setCell (Nat.le_refl _) _).setCell (Nat.le_refl _) _⟩

end Go.Proofs.YtcconhgbefhdeaaDoor

namespace Go.Proofs.YtcconhgbefhdeaaDoor
open Go.RowKit

/-- Lists that were handed in, from some place of their block on. -/
def KindsO (w : World) (g zo : Nat) (ks : List Int) : Prop := ∀ i (h : i < ks.length), w.cell? ⟨g, zo + i, none⟩ = some (.int .i64 ks[i])
def RowO (w : World) (g zo : Nat) (r : List (Int × ByteArray)) : Prop := ∀ i (h : i < r.length), w.cell? ⟨g, zo + i * 2, none⟩ = some (.int .i64 r[i].1) ∧ w.cell? ⟨g, zo + i * 2 + 1, none⟩ = some (.string r[i].2)
def TestsO (w : World) (g zo : Nat) (T : List Tst) : Prop :=
  ∀ i (h : i < T.length), w.cell? ⟨g, zo + i * 4, none⟩ = some (.int .i64 T[i].dO) ∧ w.cell? ⟨g, zo + i * 4 + 1, none⟩ = some (.int .i64 T[i].col) ∧ w.cell? ⟨g, zo + i * 4 + 2, none⟩ = some (.int .i64 T[i].n) ∧ w.cell? ⟨g, zo + i * 4 + 3, none⟩ = some (.string T[i].s)

def KindsA (w : World) (sa : Option Addr) (ks : List Int) : Prop := ks = [] ∨ ∃ g zo, sa = some ⟨g, zo, none⟩ ∧ KindsO w g zo ks
def RowA (w : World) (sa : Option Addr) (r : List (Int × ByteArray)) : Prop := r = [] ∨ ∃ g zo, sa = some ⟨g, zo, none⟩ ∧ RowO w g zo r
def TestsA (w : World) (sa : Option Addr) (T : List Tst) : Prop := T = [] ∨ ∃ g zo, sa = some ⟨g, zo, none⟩ ∧ TestsO w g zo T

theorem KindsO.lt {w : World} {g zo : Nat} {ks : List Int} (h : KindsO w g zo ks) (hk : 0 < ks.length) : g < w.heap.size := World.block_lt_of_cell? w ⟨g, zo + 0, none⟩ (h 0 hk)
theorem RowO.lt {w : World} {g zo : Nat} {r : List (Int × ByteArray)} (h : RowO w g zo r) (hk : 0 < r.length) : g < w.heap.size := World.block_lt_of_cell? w ⟨g, zo + 0 * 2, none⟩ (h 0 hk).1
theorem TestsO.lt {w : World} {g zo : Nat} {T : List Tst} (h : TestsO w g zo T) (hk : 0 < T.length) : g < w.heap.size := World.block_lt_of_cell? w ⟨g, zo + 0 * 4, none⟩ (h 0 hk).1

theorem KindsO.keep {w w' : World} {g zo : Nat} {ks : List Int} (h : KindsO w g zo ks) (hb : w'.heap[g]? = w.heap[g]?) : KindsO w' g zo ks := fun i hi => (World.cell?_of_block (w := w) (a := ⟨g, _, none⟩) hb).trans (h i hi)
theorem RowO.keep {w w' : World} {g zo : Nat} {r : List (Int × ByteArray)} (h : RowO w g zo r) (hb : w'.heap[g]? = w.heap[g]?) : RowO w' g zo r := fun i hi =>
  ⟨(World.cell?_of_block (w := w) (a := ⟨g, _, none⟩) hb).trans (h i hi).1, (World.cell?_of_block (w := w) (a := ⟨g, _, none⟩) hb).trans (h i hi).2⟩
theorem TestsO.keep {w w' : World} {g zo : Nat} {T : List Tst} (h : TestsO w g zo T) (hb : w'.heap[g]? = w.heap[g]?) : TestsO w' g zo T := fun i hi => by
  have e : ∀ o, w'.cell? ⟨g, o, none⟩ = w.cell? ⟨g, o, none⟩ := fun o => World.cell?_of_block (w := w) (a := ⟨g, o, none⟩) hb
  obtain ⟨a, b, c, d⟩ := h i hi
  exact ⟨(e _).trans a, (e _).trans b, (e _).trans c, (e _).trans d⟩

theorem KindsA.keep {w w' : World} {sa : Option Addr} {ks : List Int} (h : KindsA w sa ks) (hb : ∀ k, k < w.heap.size → w'.heap[k]? = w.heap[k]?) : KindsA w' sa ks := by
  rcases h with h | ⟨g, zo, h1, h2⟩
  · exact .inl h
  · by_cases h0 : 0 < ks.length
    · exact .inr ⟨g, zo, h1, h2.keep (hb g (h2.lt h0))⟩
    · exact .inl (List.eq_nil_of_length_eq_zero (by omega))
theorem RowA.keep {w w' : World} {sa : Option Addr} {r : List (Int × ByteArray)} (h : RowA w sa r) (hb : ∀ k, k < w.heap.size → w'.heap[k]? = w.heap[k]?) : RowA w' sa r := by
  rcases h with h | ⟨g, zo, h1, h2⟩
  · exact .inl h
  · by_cases h0 : 0 < r.length
    · exact .inr ⟨g, zo, h1, h2.keep (hb g (h2.lt h0))⟩
    · exact .inl (List.eq_nil_of_length_eq_zero (by omega))
theorem TestsA.keep {w w' : World} {sa : Option Addr} {T : List Tst} (h : TestsA w sa T) (hb : ∀ k, k < w.heap.size → w'.heap[k]? = w.heap[k]?) : TestsA w' sa T := by
  rcases h with h | ⟨g, zo, h1, h2⟩
  · exact .inl h
  · by_cases h0 : 0 < T.length
    · exact .inr ⟨g, zo, h1, h2.keep (hb g (h2.lt h0))⟩
    · exact .inl (List.eq_nil_of_length_eq_zero (by omega))

theorem KindsIn.off {w : World} {g : Nat} {ks : List Int} (h : KindsIn w g ks) : KindsO w g 0 ks := fun i hi => by rw [Nat.zero_add]; exact h i hi
theorem RowIn.off {w : World} {g : Nat} {r : List (Int × ByteArray)} (h : RowIn w g r) : RowO w g 0 r := fun i hi => by rw [Nat.zero_add]; exact h i hi
theorem TestsIn.off {w : World} {g : Nat} {T : List Tst} (h : TestsIn w g T) : TestsO w g 0 T := fun i hi => by rw [Nat.zero_add]; exact h i hi

end Go.Proofs.YtcconhgbefhdeaaDoor

namespace Go.Proofs.YtcconhgbefhdeaaDoor
open Go.RowKit

set_option maxHeartbeats 400000 in
theorem refSchema_any (sa : Option Addr) (cap : Nat) (ks : List Int) (w : World) (hks : KindsA w sa ks) (hl : ks.length ≤ 9000000) :
    Calls Tryd.prog 37 #[.slice sa ks.length cap] w fun e w' => e = .returned (.tuple #[.int .i64 (schemaFault ks).1, .int .i64 (schemaFault ks).2]) ∧ w' = w := by
  have HK : Hid (KindsA w sa ks) := hks
  clear hks
  have ity : ∀ x, isTypeB x = true → ¬ x < 1 ∧ ¬ 4 < x := fun x h => by unfold isTypeB at h; simp at h; omega
  have itn : ∀ x, isTypeB x = false → x < 1 ∨ (¬ x < 1 ∧ 4 < x) := fun x h => by unfold isTypeB at h; simp at h; omega
  have ITY : Hid (∀ x, isTypeB x = true → ¬ x < 1 ∧ ¬ 4 < x) := ity
  have ITN : Hid (∀ x, isTypeB x = false → x < 1 ∨ (¬ x < 1 ∧ 4 < x)) := itn
  clear ity itn
  cases hb : badKind ks 0 with
  | some i =>
    obtain ⟨hi, hbad, hgood⟩ := badKind_at ks i hb
    have HA : Hid (schemaFault ks = (1, (i : Int))) := by unfold schemaFault Hid; rw [hb]
    have HG : Hid (∀ j (hj : j < i), isTypeB (ks[j]'(by omega)) = true) := hgood
    have HBD : Hid (isTypeB ks[i] = false) := hbad
    rcases HK.out with h0 | ⟨g, zo, rfl, hin⟩
    · rw [h0] at hi; simp at hi
    have HIN : Hid (KindsO w g zo ks) := hin
    clear hb hin hgood hbad
    rw [HA.out]
    go_enter Tryd.func37, Tryd.ntmps37
    go_wp2_with fail
    go_loop [4] (fun x => ∃ k : Nat, k ≤ i ∧ x = .int .i64 k) (fun x => ks.length - (intOf x).toNat)
    case atStart => exact ⟨0, Nat.zero_le _, rfl⟩
    case round =>
      obtain ⟨k, hk, rfl⟩ := hrel
      have hlt : k < ks.length := by omega
      have d1 := HIN.out k hlt
      have hk1 : (k : Int) < (ks.length : Int) := by omega
      by_cases hki : k < i
      · obtain ⟨a1, a2⟩ := ITY.out _ (HG.out k hki)
        go_wp2
        go_round
        case rel => exact ⟨k + 1, by omega, by go_num⟩
        case measure => simp [intOf]; omega
      · have hke : k = i := by omega
        subst hke
        rcases ITN.out _ HBD.out with a1 | ⟨a1, a2⟩
        all_goals
          go_wp2
          go_ret2
          exact ⟨rfl, rfl⟩
  | none =>
    have hall := badKind_none ks 0 hb
    have HALL : Hid (∀ x ∈ ks, isTypeB x = true) := hall
    have HA : Hid (schemaFault ks = if ks.length < 1 ∨ 6 < ks.length then (1, -1) else (0, 0)) := by unfold schemaFault Hid; rw [hb]
    clear hb hall
    have HF : Hid (((ks.length : Int) = 0 ∧ schemaFault ks = (1, -1)) ∨ (¬ (ks.length : Int) = 0 ∧ (6 : Int) < (ks.length : Int) ∧ schemaFault ks = (1, -1)) ∨ (¬ (ks.length : Int) = 0 ∧ ¬ (6 : Int) < (ks.length : Int) ∧ schemaFault ks = (0, 0))) := by
      unfold Hid
      by_cases h1 : ks.length = 0
      · left; exact ⟨by omega, by rw [HA.out, if_pos (by omega)]⟩
      · right
        by_cases h2 : 6 < ks.length
        · left; exact ⟨by omega, by omega, by rw [HA.out, if_pos (by omega)]⟩
        · right; exact ⟨by omega, by omega, by rw [HA.out, if_neg (by omega)]⟩
    go_enter Tryd.func37, Tryd.ntmps37
    go_wp2_with fail
    go_loop [4] (fun x => ∃ k : Nat, k ≤ ks.length ∧ x = .int .i64 k) (fun x => ks.length - (intOf x).toNat)
    case atStart => exact ⟨0, Nat.zero_le _, rfl⟩
    case round =>
      obtain ⟨k, hk, rfl⟩ := hrel
      by_cases hlt : k < ks.length
      · rcases HK.out with h0 | ⟨g, zo, rfl, hin⟩
        · rw [h0] at hlt; simp at hlt
        have d1 := hin k hlt
        obtain ⟨a1, a2⟩ := ITY.out _ (HALL.out _ (List.getElem_mem hlt))
        have hk1 : (k : Int) < (ks.length : Int) := by omega
        clear hin
        go_wp2
        go_round
        case rel => exact ⟨k + 1, by omega, by go_num⟩
        case measure => simp [intOf]; omega
      · have hk1 : ¬ (k : Int) < (ks.length : Int) := by omega
        rcases HF.out with ⟨h1, h2⟩ | ⟨h1, h3, h2⟩ | ⟨h1, h3, h2⟩
        · have h1' : ((ks.length : Int) == 0) = true := by simpa using h1
          have H2 : Hid (schemaFault ks = (1, -1)) := h2
          clear h1 h2
          go_wp2
          go_ret2
          exact ⟨by rw [H2.out]; rfl, rfl⟩
        · have h1' : ((ks.length : Int) == 0) = false := by simpa using h1
          have H2 : Hid (schemaFault ks = (1, -1)) := h2
          clear h1 h2
          go_wp2
          go_ret2
          exact ⟨by rw [H2.out]; rfl, rfl⟩
        · have h1' : ((ks.length : Int) == 0) = false := by simpa using h1
          have H2 : Hid (schemaFault ks = (0, 0)) := h2
          clear h1 h2
          go_wp2
          go_ret2
          exact ⟨by rw [H2.out]; rfl, rfl⟩

set_option maxHeartbeats 400000 in
theorem refFits_any (k n : Int) (s : ByteArray) (w : World) (hk : isTypeB k = true) :
    Calls Tryd.prog 53 #[.int .i64 k, .agg #[.int .i64 n, .string s]] w fun e w' => e = .returned (.bool (fitsB k n s)) ∧ w' = w.alloc (.cells #[.int .i64 n, .string s] 30) := by
  have h4 : k = 1 ∨ k = 2 ∨ k = 3 ∨ k = 4 := by unfold isTypeB at hk; simp at hk; omega
  clear hk
  rcases h4 with rfl | rfl | rfl | rfl
  all_goals
    go_enter Tryd.func53, Tryd.ntmps53
    go_wp2
    all_goals go_ret
    all_goals refine ⟨ret_bool ?_, by first | rfl | simp_all⟩
    all_goals unfold fitsB
    all_goals simp_all
    all_goals omega

end Go.Proofs.YtcconhgbefhdeaaDoor

namespace Go.Proofs.YtcconhgbefhdeaaDoor
open Go.RowKit

theorem none_bits (n : Int) (h1 : -9223372036854775808 ≤ n) (h2 : n ≤ 9223372036854775807) : noneB n = (decide (IntKind.u64.wrap n / 4503599627370496 % 2048 = 2047) && decide (IntKind.u64.wrap n % 4503599627370496 ≠ 0)) := by
  unfold noneB magI
  rw [IntKind.wrap_u64, Bool.eq_iff_iff]
  simp only [decide_eq_true_eq, Bool.and_eq_true]
  by_cases h : n < 0
  · have e : n % 18446744073709551616 = n + 18446744073709551616 := by omega
    rw [e, if_pos h]
    omega
  · have e : n % 18446744073709551616 = n := by omega
    rw [e, if_neg h]
    omega

set_option maxRecDepth 100000 in
set_option maxHeartbeats 400000 in
theorem refNone_any (n : Int) (w : World) (h1 : -9223372036854775808 ≤ n) (h2 : n ≤ 9223372036854775807) :
    Calls Tryd.prog 89 #[.int .i64 n] w fun e w' => e = .returned (.bool (noneB n)) ∧ w' = w := by
  go_enter Tryd.func89, Tryd.ntmps89
  go_wp2
  all_goals go_ret
  all_goals refine ⟨ret_bool ?_, rfl⟩
  all_goals
    have hu : 0 ≤ IntKind.u64.wrap n := by rw [IntKind.wrap_u64]; omega
    rw [none_bits n h1 h2]
    rename_i hx
    rw [Int.tmod_eq_emod_of_nonneg (by omega)] at hx
    generalize IntKind.u64.wrap n = u at *
  · rw [Int.tmod_eq_emod_of_nonneg hu, decide_eq_true hx, Bool.true_and, Bool.eq_iff_iff]
    simp
  · rw [decide_eq_false hx]; rfl

set_option maxHeartbeats 400000 in
theorem refSize_any (n : Int) (w : World) (h1 : -9223372036854775808 ≤ n) (h2 : n ≤ 9223372036854775807) :
    Calls Tryd.prog 98 #[.int .i64 n] w fun e w' => e = .returned (.int .i64 (keyI n)) ∧ w' = w := by
  by_cases h : 0 ≤ n
  · go_enter Tryd.func98, Tryd.ntmps98
    go_wp2
    go_ret
    exact ⟨ret_int (by unfold keyI magI; rw [if_neg (by omega), if_neg (by omega)]), rfl⟩
  · go_enter Tryd.func98, Tryd.ntmps98
    go_wp2
    go_ret
    exact ⟨ret_int (by unfold keyI magI; rw [if_pos (by omega), if_pos (by omega)]; omega), rfl⟩

def cmpS (a b : ByteArray) : Int := if ltS a b then -1 else if eqS a b then 0 else 1

theorem drewN_below' (w : World) (n : Nat) : Below w.heap.size w (w.drewN n) := ⟨rfl, rfl, rfl, Nat.le_refl _, fun _ _ => rfl⟩

theorem less_prefix (p x y : List UInt8) : Op.bytesLess (p ++ x) (p ++ y) = Op.bytesLess x y := by
  induction p with
  | nil => rfl
  | cons c p ih => simp [Op.bytesLess, ih]

theorem split_at (a : ByteArray) (k : Nat) (h : k < a.size) : a.toList = a.data.toList.take k ++ (a[k] :: a.data.toList.drop (k + 1)) := by
  rw [ByteArray.toList_eq]
  have hl : k < a.data.toList.length := by simpa using h
  conv => lhs; rw [← List.take_append_drop k a.data.toList, List.drop_eq_getElem_cons hl]
  rfl

theorem cmpS_at (a b : ByteArray) (k : Nat) (ha : k < a.size) (hb : k < b.size) (hp : a.data.toList.take k = b.data.toList.take k) (hne : a[k] ≠ b[k]) : cmpS a b = if (a[k].toNat : Int) < (b[k].toNat : Int) then -1 else 1 := by
  have e1 := split_at a k ha
  have e2 := split_at b k hb
  rw [← hp] at e2
  have hlt : ltS a b = decide (a[k] < b[k]) := by
    unfold ltS
    rw [e1, e2, less_prefix]
    simp only [Op.bytesLess]
    have : (a[k] == b[k]) = false := by simpa using hne
    rw [this]; simp
  have heq : eqS a b = false := by
    unfold eqS
    rw [e1, e2]
    simp
    intro h; exact absurd h hne
  unfold cmpS
  rw [hlt, heq]
  by_cases h : a[k] < b[k]
  · have : (a[k].toNat : Int) < (b[k].toNat : Int) := by have := UInt8.lt_iff_toNat_lt.1 h; omega
    rw [if_pos this]; simp [h]
  · have : ¬ (a[k].toNat : Int) < (b[k].toNat : Int) := fun hx => h (UInt8.lt_iff_toNat_lt.2 (by omega))
    rw [if_neg this]; simp [h]

theorem cmpS_end (a b : ByteArray) (k : Nat) (hka : k ≤ a.size) (hkb : k ≤ b.size) (hk : k = a.size ∨ k = b.size) (hp : a.data.toList.take k = b.data.toList.take k) : cmpS a b = if (a.size : Int) < (b.size : Int) then -1 else if (b.size : Int) < (a.size : Int) then 1 else 0 := by
  have sa : a.data.toList.length = a.size := by simp
  have sb : b.data.toList.length = b.size := by simp
  have ta : a.toList = a.data.toList := ByteArray.toList_eq a
  have tb : b.toList = b.data.toList := ByteArray.toList_eq b
  by_cases h1 : a.size < b.size
  · rw [if_pos (by omega)]
    have hka' : k = a.size := by omega
    have ea : a.data.toList = b.data.toList.take k := by rw [← hp, List.take_of_length_le (by omega)]
    have eb : b.data.toList = b.data.toList.take k ++ b.data.toList.drop k := (List.take_append_drop _ _).symm
    have hd : b.data.toList.drop k = b.data.toList[k]'(by omega) :: b.data.toList.drop (k + 1) := List.drop_eq_getElem_cons (by omega)
    have hlt : ltS a b = true := by
      unfold ltS
      rw [ta, tb, ea, eb, hd]
      have := less_prefix (b.data.toList.take k) [] (b.data.toList[k]'(by omega) :: b.data.toList.drop (k + 1))
      simp only [List.append_nil] at this
      rw [List.take_left' (by simp; omega), this]
      rfl
    unfold cmpS; rw [hlt]; rfl
  · rw [if_neg (by omega)]
    by_cases h2 : b.size < a.size
    · rw [if_pos (by omega)]
      have ebk : b.data.toList = a.data.toList.take k := by rw [hp, List.take_of_length_le (by omega)]
      have hd : a.data.toList.drop k = a.data.toList[k]'(by omega) :: a.data.toList.drop (k + 1) := List.drop_eq_getElem_cons (by omega)
      have hlt : ltS a b = false := by
        unfold ltS
        rw [ta, tb, ebk]
        conv => lhs; rw [← List.take_append_drop k a.data.toList, hd]
        have := less_prefix (a.data.toList.take k) (a.data.toList[k]'(by omega) :: a.data.toList.drop (k + 1)) []
        simp only [List.append_nil] at this
        rw [List.take_left' (by simp; omega), this]
        rfl
      have heq : eqS a b = false := by
        unfold eqS
        rw [ta, tb]
        simp only [beq_eq_false_iff_ne, ne_eq]
        intro h
        have := congrArg List.length h
        omega
      unfold cmpS; rw [hlt, heq]; rfl
    · rw [if_neg (by omega)]
      have heq : eqS a b = true := by
        unfold eqS
        rw [ta, tb]
        rw [List.take_of_length_le (by omega), List.take_of_length_le (by omega)] at hp
        rw [hp]; simp
      unfold cmpS; rw [ltS_eqS a b heq, heq]; rfl

set_option maxHeartbeats 400000 in
theorem refBytes_any (a b : ByteArray) (w : World) (ha : a.size ≤ 9000000) :
    Calls Tryd.prog 97 #[.string a, .string b] w fun e w' => e = .returned (.int .i64 (cmpS a b)) ∧ ∃ q, w' = w.drewN q := by
  go_enter Tryd.func97, Tryd.ntmps97
  go_wp2_with fail
  go_loopw [5] (fun i wr => ∃ k : Nat, k ≤ a.size ∧ k ≤ b.size ∧ i = .int .i64 k ∧ a.data.toList.take k = b.data.toList.take k ∧ ∃ q, wr = w.drewN q) (fun i _ => a.size - (intOf i).toNat)
  case atStart => exact ⟨0, Nat.zero_le _, Nat.zero_le _, rfl, by simp, 0, rfl⟩
  case round =>
    obtain ⟨k, hka, hkb, rfl, htk, q, rfl⟩ := hrel
    have HTK : Hid (a.data.toList.take k = b.data.toList.take k) := htk
    clear htk
    by_cases hlt : k < a.size ∧ k < b.size
    · obtain ⟨hla, hlb⟩ := hlt
      have i0 : (0 : Int) ≤ (k : Int) := by omega
      have i1 : (k : Int) < (a.size : Int) := by omega
      have i2 : (k : Int) < (b.size : Int) := by omega
      by_cases he : a[k] = b[k]
      · have hn : ((a[k].toNat : Int) != (b[k].toNat : Int)) = false := by rw [he]; simp
        have HT2 : Hid (a.data.toList.take (k + 1) = b.data.toList.take (k + 1)) := by
          unfold Hid
          have e1 : a.data.toList[k]'(by simpa using hla) = a[k] := rfl
          have e2 : b.data.toList[k]'(by simpa using hlb) = b[k] := rfl
          rw [List.take_succ_eq_append_getElem (by simpa using hla), List.take_succ_eq_append_getElem (by simpa using hlb), HTK.out, e1, e2, he]
        have HE : Hid (a[k] = b[k]) := he
        clear he
        go_wp2_with fail
        go_quiet (fail)
        go_wp2
        go_roundw
        case rel => exact ⟨k + 1, by omega, by omega, by go_num, HT2.out, _, rfl⟩
        case measure => simp [intOf]; omega
      · have hn : ((a[k].toNat : Int) != (b[k].toNat : Int)) = true := by
          rw [bne_iff_ne]
          intro h
          exact he (UInt8.toNat_inj.1 (by omega))
        have HC : Hid (cmpS a b = if (a[k].toNat : Int) < (b[k].toNat : Int) then -1 else 1) := cmpS_at a b k hla hlb HTK.out he
        clear he
        by_cases hl : (a[k].toNat : Int) < (b[k].toNat : Int)
        · have HC2 : Hid (cmpS a b = -1) := by unfold Hid; rw [HC.out, if_pos hl]
          go_wp2_with fail
          go_quiet (fail)
          go_wp2_with fail
          go_quiet (fail)
          go_wp2
          go_ret
          exact ⟨ret_int HC2.out.symm, _, by rw [World.drewN_drewN, World.drewN_drewN]⟩
        · have HC2 : Hid (cmpS a b = 1) := by unfold Hid; rw [HC.out, if_neg hl]
          go_wp2_with fail
          go_quiet (fail)
          go_wp2_with fail
          go_quiet (fail)
          go_wp2
          go_ret
          exact ⟨ret_int HC2.out.symm, _, by rw [World.drewN_drewN, World.drewN_drewN]⟩
    · have HC : Hid (cmpS a b = if (a.size : Int) < (b.size : Int) then -1 else if (b.size : Int) < (a.size : Int) then 1 else 0) := cmpS_end a b k hka hkb (by omega) HTK.out
      have hcs : ¬ (k : Int) < (a.size : Int) ∨ ((k : Int) < (a.size : Int) ∧ ¬ (k : Int) < (b.size : Int)) := by omega
      have hsz : (a.size : Int) < (b.size : Int) ∨ (¬ (a.size : Int) < (b.size : Int) ∧ (b.size : Int) < (a.size : Int)) ∨ (¬ (a.size : Int) < (b.size : Int) ∧ ¬ (b.size : Int) < (a.size : Int)) := by omega
      rcases hsz with z1 | ⟨z1, z2⟩ | ⟨z1, z2⟩
      · have HC2 : Hid (cmpS a b = -1) := by unfold Hid; rw [HC.out, if_pos z1]
        rcases hcs with c1 | ⟨c1, c2⟩
        all_goals
          go_wp2
          go_ret
          exact ⟨ret_int HC2.out.symm, _, rfl⟩
      · have HC2 : Hid (cmpS a b = 1) := by unfold Hid; rw [HC.out, if_neg z1, if_pos z2]
        rcases hcs with c1 | ⟨c1, c2⟩
        all_goals
          go_wp2
          go_ret
          exact ⟨ret_int HC2.out.symm, _, rfl⟩
      · have HC2 : Hid (cmpS a b = 0) := by unfold Hid; rw [HC.out, if_neg z1, if_neg z2]
        rcases hcs with c1 | ⟨c1, c2⟩
        all_goals
          go_wp2
          go_ret
          exact ⟨ret_int HC2.out.symm, _, rfl⟩

/-- How two values of a type stand. -/
def orderI (k n : Int) (s : ByteArray) (m : Int) (t : ByteArray) : Int :=
  if k = 3 then cmpS s t else if k = 2 then (if keyI n < keyI m then -1 else if keyI m < keyI n then 1 else 0) else (if n < m then -1 else if m < n then 1 else 0)

theorem keyI_bd (n : Int) (h1 : -9223372036854775808 ≤ n) (h2 : n ≤ 9223372036854775807) : -9223372036854775808 ≤ keyI n ∧ keyI n ≤ 9223372036854775807 := by
  unfold keyI magI; split <;> omega

set_option maxHeartbeats 400000 in
theorem refOrder_any (k n : Int) (s : ByteArray) (m : Int) (t : ByteArray) (w : World) (n1 : -9223372036854775808 ≤ n) (n2 : n ≤ 9223372036854775807) (m1 : -9223372036854775808 ≤ m) (m2 : m ≤ 9223372036854775807) (hs : s.size ≤ 9000000) :
    Calls Tryd.prog 90 #[.int .i64 k, .agg #[.int .i64 n, .string s], .agg #[.int .i64 m, .string t]] w fun e w' => e = .returned (.int .i64 (orderI k n s m t)) ∧ Below w.heap.size w w' := by
  by_cases h3 : k = 3
  · subst h3
    go_enter Tryd.func90, Tryd.ntmps90
    go_wp2_with fail
    refine (refBytes_any s t _ hs).mono ?_
    rintro e w1 ⟨rfl, q, rfl⟩
    go_wp2
    go_ret
    exact ⟨ret_int (by unfold orderI; rw [if_pos rfl]), (((Below.refl _ _).alloc (Nat.le_refl _) _).alloc (by simp) _).trans ((drewN_below' _ q).mono (by simp; omega))⟩
  · have e3 : (k == 3) = false := by simpa using h3
    by_cases h2 : k = 2
    · subst h2
      have b1 := keyI_bd n n1 n2
      have b2 := keyI_bd m m1 m2
      have HO : Hid (orderI 2 n s m t = if keyI n < keyI m then -1 else if keyI m < keyI n then 1 else 0) := by unfold orderI Hid; rw [if_neg (by omega), if_pos rfl]
      go_enter Tryd.func90, Tryd.ntmps90
      go_wp2_with (go_at_call 98; refine (refSize_any _ _ (by assumption) (by assumption)).mono ?_; rintro e w' ⟨rfl, rfl⟩)
      all_goals go_ret
      all_goals refine ⟨ret_int ?_, ((Below.refl _ _).alloc (Nat.le_refl _) _).alloc (by simp) _⟩
      all_goals rw [HO.out]
      all_goals first | rw [if_pos (by assumption)] | rw [if_neg (by omega), if_pos (by omega)] | rw [if_neg (by omega), if_neg (by omega)]
    · have e2 : (k == 2) = false := by simpa using h2
      have HO : Hid (orderI k n s m t = if n < m then -1 else if m < n then 1 else 0) := by unfold orderI Hid; rw [if_neg h3, if_neg h2]
      clear h2 h3
      go_enter Tryd.func90, Tryd.ntmps90
      go_wp2
      all_goals go_ret
      all_goals refine ⟨ret_int ?_, ((Below.refl _ _).alloc (Nat.le_refl _) _).alloc (by simp) _⟩
      all_goals rw [HO.out]
      all_goals first | rw [if_pos (by assumption)] | rw [if_neg (by omega), if_pos (by omega)] | rw [if_neg (by omega), if_neg (by omega)]

end Go.Proofs.YtcconhgbefhdeaaDoor

namespace Go.Proofs.YtcconhgbefhdeaaDoor
open Go.RowKit

def tailO (d o : Int) : Bool :=
  if d = 1 then o == 0 else if d = 2 then o != 0 else if d = 3 then decide (o < 0) else if d = 4 then decide (o ≤ 0) else if d = 5 then decide (0 < o) else decide (0 ≤ o)

theorem tailO_tailB (d o : Int) : tailO d o = tailB d (decide (o < 0)) (decide (0 < o)) := by
  unfold tailO tailB
  rw [Bool.eq_iff_iff]
  repeat' split
  all_goals simp
  all_goals omega

def refSaysB (d k n : Int) (s : ByteArray) (m : Int) (t : ByteArray) : Bool :=
  if k = 2 ∧ (noneB n = true ∨ noneB m = true) then d == 2 else tailO d (orderI k n s m t)

theorem order_tail (d a b : Int) : tailO d (if a < b then -1 else if b < a then 1 else 0) = tailB d (decide (a < b)) (decide (b < a)) := by
  rw [tailO_tailB]
  congr 1
  · rw [Bool.eq_iff_iff]; simp only [decide_eq_true_eq]; split <;> (try split) <;> simp <;> omega
  · rw [Bool.eq_iff_iff]; simp only [decide_eq_true_eq]; split <;> (try split) <;> simp <;> omega

theorem order_tail_text (d : Int) (s t : ByteArray) : tailO d (cmpS s t) = tailB d (ltS s t) (!ltS s t && !eqS s t) := by
  rw [tailO_tailB]
  unfold cmpS
  cases ltS s t <;> cases eqS s t <;> rfl

theorem refSays_eq (d k n : Int) (s : ByteArray) (m : Int) (t : ByteArray) (n1 : -9223372036854775808 ≤ n) (n2 : n ≤ 9223372036854775807) (m1 : -9223372036854775808 ≤ m) (m2 : m ≤ 9223372036854775807)
    (d1 : 1 ≤ d) (d6 : d ≤ 6) : refSaysB d k n s m t = holdsB k d n s m t := by
  have ha := agree d (k - 1) n s m t n1 n2 m1 m2 d1 d6
  rw [show k - 1 + 1 = k by omega] at ha
  rw [ha]
  unfold refSaysB saysB
  by_cases h3 : k = 3
  · subst h3
    rw [if_neg (by omega), if_pos (by omega)]
    exact order_tail_text d s t
  · by_cases h2 : k = 2
    · subst h2
      rw [if_neg (by omega : ¬ (2 : Int) - 1 = 2), if_pos (by omega : (2 : Int) - 1 = 1)]
      have ho : orderI 2 n s m t = if keyI n < keyI m then -1 else if keyI m < keyI n then 1 else 0 := by unfold orderI; rw [if_neg (by omega), if_pos rfl]
      by_cases hn : noneB n = true ∨ noneB m = true
      · rw [if_pos ⟨rfl, hn⟩, if_pos (by rcases hn with h | h <;> simp [h])]
      · rw [if_neg (fun h => hn h.2), if_neg (by simpa using hn), realLess_key n m n1 m1, realLess_key m n m1 n1, ho]
        exact order_tail d _ _
    · have ho : orderI k n s m t = if n < m then -1 else if m < n then 1 else 0 := by unfold orderI; rw [if_neg h3, if_neg h2]
      rw [if_neg (fun h => h2 h.1), if_neg (by omega : ¬ k - 1 = 2), if_neg (by omega : ¬ k - 1 = 1), ho]
      exact order_tail d n m

set_option maxRecDepth 100000 in
set_option maxHeartbeats 1000000 in
theorem refSays_any (d k n : Int) (s : ByteArray) (m : Int) (t : ByteArray) (w : World) (n1 : -9223372036854775808 ≤ n) (n2 : n ≤ 9223372036854775807) (m1 : -9223372036854775808 ≤ m) (m2 : m ≤ 9223372036854775807) (hs : s.size ≤ 9000000) :
    Calls Tryd.prog 96 #[.int .i64 d, .int .i64 k, .agg #[.int .i64 n, .string s], .agg #[.int .i64 m, .string t]] w fun e w' => e = .returned (.bool (refSaysB d k n s m t)) ∧ Below w.heap.size w w' := by
  by_cases h2 : k = 2
  · subst h2
    by_cases hn : noneB n = true
    · have HR : Hid (refSaysB d 2 n s m t = (d == 2)) := by unfold Hid refSaysB; rw [if_pos ⟨rfl, .inl hn⟩]
      go_enter Tryd.func96, Tryd.ntmps96
      go_wp2_with (go_at_call 89; refine (refNone_any _ _ (by assumption) (by assumption)).mono ?_; rintro e w' ⟨rfl, rfl⟩)
      all_goals go_ret
      all_goals exact ⟨ret_bool (by rw [HR.out]), ((Below.refl _ _).alloc (Nat.le_refl _) _).alloc (by simp) _⟩
    · have hn' : noneB n = false := by simpa using hn
      by_cases hm : noneB m = true
      · have HR : Hid (refSaysB d 2 n s m t = (d == 2)) := by unfold Hid refSaysB; rw [if_pos ⟨rfl, .inr hm⟩]
        clear hn
        go_enter Tryd.func96, Tryd.ntmps96
        go_wp2_with (go_at_call 89; refine (refNone_any _ _ (by assumption) (by assumption)).mono ?_; rintro e w' ⟨rfl, rfl⟩)
        all_goals go_ret
        all_goals exact ⟨ret_bool (by rw [HR.out]), ((Below.refl _ _).alloc (Nat.le_refl _) _).alloc (by simp) _⟩
      · have hm' : noneB m = false := by simpa using hm
        have HR : Hid (refSaysB d 2 n s m t = tailO d (orderI 2 n s m t)) := by unfold Hid refSaysB; rw [if_neg (by simp [hn', hm'])]
        clear hn hm
        go_enter Tryd.func96, Tryd.ntmps96
        go_wp2_with (first | (go_at_call 89; refine (refNone_any _ _ (by assumption) (by assumption)).mono ?_; rintro e w' ⟨rfl, rfl⟩) | (go_at_call 90; refine (refOrder_any _ _ _ _ _ _ (by assumption) (by assumption) (by assumption) (by assumption) (by assumption)).mono ?_; rintro e w' ⟨rfl, hbl⟩))
        all_goals go_ret
        all_goals refine ⟨ret_bool ?_, (((Below.refl _ _).alloc (Nat.le_refl _) _).alloc (by simp) _).trans (hbl.mono (by simp; omega))⟩
        all_goals rw [HR.out]
        all_goals unfold tailO
        all_goals simp_all
  · have h2' : (k == 2) = false := by simpa using h2
    have HR : Hid (refSaysB d k n s m t = tailO d (orderI k n s m t)) := by unfold Hid refSaysB; rw [if_neg (fun h => h2 h.1)]
    clear h2
    go_enter Tryd.func96, Tryd.ntmps96
    go_wp2_with (go_at_call 90; refine (refOrder_any _ _ _ _ _ _ (by assumption) (by assumption) (by assumption) (by assumption) (by assumption)).mono ?_; rintro e w' ⟨rfl, hbl⟩)
    all_goals go_ret
    all_goals refine ⟨ret_bool ?_, (((Below.refl _ _).alloc (Nat.le_refl _) _).alloc (by simp) _).trans (hbl.mono (by simp; omega))⟩
    all_goals rw [HR.out]
    all_goals unfold tailO
    all_goals simp_all

/-- What the document's answer says of a value is what the program's says. -/
theorem refSays_holds (d k n : Int) (s : ByteArray) (m : Int) (t : ByteArray) (w : World) (n1 : -9223372036854775808 ≤ n) (n2 : n ≤ 9223372036854775807) (m1 : -9223372036854775808 ≤ m) (m2 : m ≤ 9223372036854775807) (hs : s.size ≤ 9000000) (d1 : 1 ≤ d) (d6 : d ≤ 6) :
    Calls Tryd.prog 96 #[.int .i64 d, .int .i64 k, .agg #[.int .i64 n, .string s], .agg #[.int .i64 m, .string t]] w fun e w' => e = .returned (.bool (holdsB k d n s m t)) ∧ Below w.heap.size w w' := by
  have := refSays_any d k n s m t w n1 n2 m1 m2 hs
  rw [refSays_eq d k n s m t n1 n2 m1 m2 d1 d6] at this
  exact this

end Go.Proofs.YtcconhgbefhdeaaDoor

namespace Go.Proofs.YtcconhgbefhdeaaDoor
open Go.RowKit
attribute [local go_sem ↓] Go.wp_at_zero Go.wp_at_succ

/-- A text that is not empty. -/
def Said (why : ByteArray) : Prop := why.toList.isEmpty = false
theorem said_of {why : ByteArray} (h : why.toList.isEmpty = false) : Said why := h

set_option maxHeartbeats 1000000 in
theorem wrong_deed (sv : Value) (d c n : Int) (s : ByteArray) (a : Int) (w : World) (hd : d < 1 ∨ 9 < d) :
    Calls Tryd.prog 66 #[sv, .agg #[.int .i64 d, .int .i64 c, .int .i64 n, .string s], .int .i64 a] w fun e w' => ∃ why, e = .returned (.string why) ∧ Said why ∧ Below w.heap.size w w' := by
  have h1 : (d == 1) = false := by rw [beq_eq_false_iff_ne]; omega
  have h2 : (d == 2) = false := by rw [beq_eq_false_iff_ne]; omega
  have h3 : (d == 3) = false := by rw [beq_eq_false_iff_ne]; omega
  have h4 : (d == 4) = false := by rw [beq_eq_false_iff_ne]; omega
  have h5 : (d == 5) = false := by rw [beq_eq_false_iff_ne]; omega
  have h6 : (d == 6) = false := by rw [beq_eq_false_iff_ne]; omega
  have h7 : (d == 7) = false := by rw [beq_eq_false_iff_ne]; omega
  have h8 : (d == 8) = false := by rw [beq_eq_false_iff_ne]; omega
  have h9 : (d == 9) = false := by rw [beq_eq_false_iff_ne]; omega
  go_enter Tryd.func66, Tryd.ntmps66
  go_wp2
  go_ret
  exact ⟨_, rfl, said_of (by kernel_rfl), (Below.refl _ _).alloc (Nat.le_refl _) _⟩

set_option maxHeartbeats 1000000 in
theorem wrong_col (sa : Option Addr) (sl scap : Nat) (d c n : Int) (s : ByteArray) (a : Int) (w : World) (hd : d = 1 ∨ d = 2 ∨ d = 3 ∨ d = 4 ∨ d = 5 ∨ d = 6) (hc : c < 0 ∨ (¬ c < 0 ∧ (sl : Int) ≤ c)) :
    Calls Tryd.prog 66 #[.slice sa sl scap, .agg #[.int .i64 d, .int .i64 c, .int .i64 n, .string s], .int .i64 a] w fun e w' => ∃ why, e = .returned (.string why) ∧ Said why ∧ Below w.heap.size w w' := by
  rcases hc with hc | ⟨hc1, hc2⟩
  all_goals
    rcases hd with rfl | rfl | rfl | rfl | rfl | rfl
    all_goals
      go_enter Tryd.func66, Tryd.ntmps66
      go_wp2
      go_ret
      exact ⟨_, rfl, said_of (by kernel_rfl), (Below.refl _ _).alloc (Nat.le_refl _) _⟩

set_option maxHeartbeats 1000000 in
theorem wrong_fit (sc scap : Nat) (ks : List Int) (d n : Int) (c : Nat) (s : ByteArray) (a : Int) (w : World) (hks : KindsIn w sc ks) (hd : d = 1 ∨ d = 2 ∨ d = 3 ∨ d = 4 ∨ d = 5 ∨ d = 6) (hc : c < ks.length) (hf : fitsB ks[c] n s = false) :
    Calls Tryd.prog 66 #[.slice (some ⟨sc, 0, none⟩) ks.length scap, .agg #[.int .i64 d, .int .i64 c, .int .i64 n, .string s], .int .i64 a] w fun e w' => ∃ why, e = .returned (.string why) ∧ Said why ∧ Below w.heap.size w w' := by
  have k1 := hks c hc
  generalize ks[c] = kk at k1 hf
  have c1 : (0 : Int) ≤ (c : Int) := by omega
  have c2 : (c : Int) < (ks.length : Int) := by omega
  have c3 : ¬ ((c : Int) < 0) := by omega
  have c4 : ¬ ((ks.length : Int) ≤ (c : Int)) := by omega
  have n1 := World.new_ne _ _ k1
  clear hks
  generalize ks.length = m at *
  rcases hd with rfl | rfl | rfl | rfl | rfl | rfl
  all_goals
    go_enter Tryd.func66, Tryd.ntmps66
    go_wp2_with fail
    go_region_held3 (fun w' => w'.cell? ⟨w.heap.size, 1, none⟩ = some (.int .i64 c) ∧ w'.cell? ⟨w.heap.size, 2, none⟩ = some (.int .i64 n) ∧ w'.cell? ⟨w.heap.size, 3, none⟩ = some (.string s) ∧ w'.cell? ⟨sc, c, none⟩ = some (.int .i64 kk)) (go_keep)
      (first | (go_at_call 80; refine (fits_any _ _ _ _).mono ?_; rintro e w1 ⟨rfl, rfl⟩))
    go_wp2
    go_ret
    exact ⟨_, rfl, said_of (by kernel_rfl), (((Below.refl _ _).alloc (Nat.le_refl _) _).alloc (by simp) _).drew⟩

set_option maxHeartbeats 1000000 in
theorem wrong_few (sv : Value) (c n : Int) (s : ByteArray) (d a : Int) (w : World) (hd : d = 7 ∨ d = 8 ∨ d = 9) (ha : a < takesI d) :
    Calls Tryd.prog 66 #[sv, .agg #[.int .i64 d, .int .i64 c, .int .i64 n, .string s], .int .i64 a] w fun e w' => ∃ why, e = .returned (.string why) ∧ Said why ∧ Below w.heap.size w w' := by
  rcases hd with rfl | rfl | rfl
  all_goals
    go_enter Tryd.func66, Tryd.ntmps66
    go_wp2_with (go_at_call 67; refine (takes_any _ _).mono ?_; rintro e w' ⟨rfl, rfl⟩)
    go_ret
    exact ⟨_, rfl, said_of (by kernel_rfl), (Below.refl _ _).alloc (Nat.le_refl _) _⟩

def okTB (ks : List Int) (t : Tst) (a : Int) : Bool :=
  if 1 ≤ t.dO ∧ t.dO ≤ 6 then decide (0 ≤ t.col ∧ t.col < ks.length) && fitsB (ks.getD t.col.toNat 0) t.n t.s
  else if 7 ≤ t.dO ∧ t.dO ≤ 9 then decide (takesI t.dO ≤ a) else false

theorem okTB_iff (ks : List Int) (t : Tst) (a : Int) (h : okTB ks t a = true) : okT ks t a := by
  unfold okTB at h
  split at h
  · rename_i hd
    simp only [Bool.and_eq_true, decide_eq_true_eq] at h
    obtain ⟨⟨h1, h2⟩, h3⟩ := h
    refine .inl ⟨by omega, t.col.toNat, by omega, by omega, ?_⟩
    have hl : t.col.toNat < ks.length := by omega
    simpa [List.getD, hl] using h3
  · split at h
    · rename_i hd
      simp only [decide_eq_true_eq] at h
      exact .inr ⟨by omega, h⟩
    · cases h

theorem wrong_bad (sc scap : Nat) (ks : List Int) (t : Tst) (a : Int) (w : World) (hks : KindsIn w sc ks) (h : okTB ks t a = false) :
    Calls Tryd.prog 66 #[.slice (some ⟨sc, 0, none⟩) ks.length scap, .agg #[.int .i64 t.dO, .int .i64 t.col, .int .i64 t.n, .string t.s], .int .i64 a] w fun e w' => ∃ why, e = .returned (.string why) ∧ Said why ∧ Below w.heap.size w w' := by
  unfold okTB at h
  split at h
  · rename_i hd
    have hd' : t.dO = 1 ∨ t.dO = 2 ∨ t.dO = 3 ∨ t.dO = 4 ∨ t.dO = 5 ∨ t.dO = 6 := by omega
    by_cases hc : 0 ≤ t.col ∧ t.col < ks.length
    · have hl : t.col.toNat < ks.length := by omega
      have he : t.col = (t.col.toNat : Int) := by omega
      simp only [hc, true_and, decide_true, Bool.true_and] at h
      have hf : fitsB ks[t.col.toNat] t.n t.s = false := by simpa [List.getD, hl] using h
      rw [he]
      exact wrong_fit sc scap ks t.dO t.n t.col.toNat t.s a w hks hd' hl hf
    · exact wrong_col _ _ _ t.dO t.col t.n t.s a w hd' (by omega)
  · split at h
    · rename_i hd
      simp only [decide_eq_false_iff_not] at h
      exact wrong_few _ t.col t.n t.s t.dO a w (by omega) (by omega)
    · exact wrong_deed _ t.dO t.col t.n t.s a w (by omega)

end Go.Proofs.YtcconhgbefhdeaaDoor
