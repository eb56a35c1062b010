import Derived.Test.YtcconhgbefhdeaaDoorWrong
namespace Go.Proofs.YtcconhgbefhdeaaDoor
open Go.RowKit

def TestsIn (w : World) (g : Nat) (T : List Tst) : Prop :=
  ∀ i (h : i < T.length), w.cell? ⟨g, i * 4, none⟩ = some (.int .i64 T[i].dO) ∧ w.cell? ⟨g, i * 4 + 1, none⟩ = some (.int .i64 T[i].col) ∧ w.cell? ⟨g, i * 4 + 2, none⟩ = some (.int .i64 T[i].n) ∧ w.cell? ⟨g, i * 4 + 3, none⟩ = some (.string T[i].s)

theorem TestsIn.keep {w w' : World} {g : Nat} {T : List Tst} (h : TestsIn w g T) (hb : w'.heap[g]? = w.heap[g]?) : TestsIn w' g T := fun i hi => by
  obtain ⟨a, b, c, d⟩ := h i hi
  have e : ∀ o, w'.cell? ⟨g, o, none⟩ = w.cell? ⟨g, o, none⟩ := fun o => World.cell?_of_block (w := w) (a := ⟨g, o, none⟩) hb
  exact ⟨(e _).trans a, (e _).trans b, (e _).trans c, (e _).trans d⟩

theorem TestsIn.lt {w : World} {g : Nat} {T : List Tst} (h : TestsIn w g T) (hr : 0 < T.length) : g < w.heap.size :=
  World.block_lt_of_cell? w ⟨g, 0 * 4, none⟩ (h 0 hr).1

/-- A list of tests that is lent. -/
def TestsAt (w : World) (ta : Option Addr) (T : List Tst) : Prop := T = [] ∨ ∃ g, ta = some ⟨g, 0, none⟩ ∧ TestsIn w g T

theorem TestsAt.keep {w w' : World} {ta : Option Addr} {T : List Tst} (h : TestsAt w ta T) (hb : ∀ k, k < w.heap.size → w'.heap[k]? = w.heap[k]?) : TestsAt w' ta T := by
  rcases h with h | ⟨g, h1, h2⟩
  · exact .inl h
  · by_cases h0 : 0 < T.length
    · exact .inr ⟨g, h1, h2.keep (hb g (h2.lt h0))⟩
    · exact .inl (List.eq_nil_of_length_eq_zero (by omega))

def okT (ks : List Int) (t : Tst) (a : Int) : Prop :=
  ((t.dO = 1 ∨ t.dO = 2 ∨ t.dO = 3 ∨ t.dO = 4 ∨ t.dO = 5 ∨ t.dO = 6) ∧ ∃ c : Nat, t.col = c ∧ ∃ h : c < ks.length, fitsB ks[c] t.n t.s = true) ∨ ((t.dO = 7 ∨ t.dO = 8 ∨ t.dO = 9) ∧ takesI t.dO ≤ a)

def cntI : List Tst → Int → Int
  | [], c => c
  | t :: T, c => cntI T (c + (1 - takesI t.dO))

theorem cntI_append (A B : List Tst) (c : Int) : cntI (A ++ B) c = cntI B (cntI A c) := by
  induction A generalizing c with
  | nil => rfl
  | cons t A ih => exact ih _

theorem takesI_bd (d : Int) : 0 ≤ takesI d ∧ takesI d ≤ 2 := by unfold takesI; split <;> (try split) <;> omega

theorem cntI_bd (T : List Tst) (c : Int) : c - T.length ≤ cntI T c ∧ cntI T c ≤ c + T.length := by
  induction T generalizing c with
  | nil => simp [cntI]
  | cons t T ih =>
    have h1 := ih (c + (1 - takesI t.dO))
    have h2 := takesI_bd t.dO
    simp only [cntI, List.length_cons]
    omega

theorem cntI_succ (T : List Tst) (k : Nat) (h : k < T.length) : cntI (T.take (k + 1)) 0 = cntI (T.take k) 0 + (1 - takesI T[k].dO) := by
  rw [List.take_succ_eq_append_getElem h, cntI_append]; rfl

structure ValidT (ks : List Int) (T : List Tst) : Prop where
  ok : ∀ i (h : i < T.length), okT ks T[i] (cntI (T.take i) 0)
  one : T = [] ∨ cntI T 0 = 1
  few : T.length ≤ 40

theorem wrong_ok (sc scap : Nat) (ks : List Int) (t : Tst) (a : Int) (w : World) (hks : KindsIn w sc ks) (h : okT ks t a) :
    Calls Tryd.prog 66 #[.slice (some ⟨sc, 0, none⟩) ks.length scap, .agg #[.int .i64 t.dO, .int .i64 t.col, .int .i64 t.n, .string t.s], .int .i64 a] w fun e w' => e = .returned (.string ⟨#[]⟩) ∧ Below w.heap.size w w' := by
  rcases h with ⟨hd, c, hc, hl, hf⟩ | ⟨hd, ha⟩
  · rw [hc]; exact wrong_cmp sc scap ks t.dO t.n c t.s a w hks hd hl hf
  · exact wrong_not _ t.col t.n t.s t.dO a w hd ha

set_option maxHeartbeats 1000000 in
theorem sieveNew_ok (sc scap tcap : Nat) (ta : Option Addr) (ks : List Int) (T : List Tst) (w : World) (hk : 0 < ks.length) (hks : KindsIn w sc ks) (hT : TestsAt w ta T) (hv : ValidT ks T) :
    Calls Tryd.prog 45 #[.slice (some ⟨sc, 0, none⟩) ks.length scap, .slice ta T.length tcap] w fun e w' =>
      e = .returned (.tuple #[.agg #[.slice (some ⟨sc, 0, none⟩) ks.length scap, .slice ta T.length tcap], .nilIface]) ∧ Below w.heap.size w w' := by
  have h40 : ¬ ((40 : Int) < (T.length : Int)) := by have := hv.few; omega
  have hsc : sc < w.heap.size := hks.lt hk
  have HV : Hid (ValidT ks T) := hv
  have HT : Hid (TestsAt w ta T) := hT
  have HKS : Hid (KindsIn w sc ks) := hks
  clear hv hT hks
  go_enter Tryd.func45, Tryd.ntmps45
  go_wp2_with fail
  go_loopw [6, 17] (fun a i wr => ∃ k : Nat, k ≤ T.length ∧ i = .int .i64 k ∧ a = .int .i64 (cntI (T.take k) 0) ∧ Below (w.heap.size + 1) (w.alloc (.cells #[.slice none 0 0, .slice none 0 0] 92)) wr) (fun _ i _ => T.length - (intOf i).toNat)
  case atStart => exact ⟨0, Nat.zero_le _, rfl, rfl, Below.refl _ _⟩
  case round =>
    obtain ⟨k, hk, rfl, rfl, hB⟩ := hrel
    by_cases hlt : k < T.length
    · rcases HT.out with h0 | ⟨g, rfl, hin⟩
      · rw [h0] at hlt; simp at hlt
      have hg : g < w.heap.size := hin.lt (by omega)
      have hz := hB.size
      simp at hz
      obtain ⟨c1, c2, c3, c4⟩ := hin k hlt
      have e : ∀ o, wr.cell? ⟨g, o, none⟩ = w.cell? ⟨g, o, none⟩ := fun o => (hB.cell (p := ⟨g, o, none⟩) (by simp; omega)).trans (cell_alloc w _ g o hg)
      rw [← e] at c1 c2 c3 c4
      have hks1 : ∀ o, (wr.alloc o).heap[sc]? = w.heap[sc]? := fun o => (Below.heap_alloc _ _ _ (by omega)).trans ((hB.block sc (by omega)).trans (Below.heap_alloc _ _ _ hsc))
      have HK1 : Hid (∀ o, (wr.alloc o).heap[sc]? = w.heap[sc]?) := hks1
      have hbd := cntI_bd (T.take k) 0
      have htk := takesI_bd T[k].dO
      have hl : (T.take k).length ≤ 40 := by have := HV.out.few; simp; omega
      have HC : Hid (cntI (T.take (k + 1)) 0 = cntI (T.take k) 0 + (1 - takesI T[k].dO)) := cntI_succ T k hlt
      have HIN : Hid (TestsIn w g T) := hin
      clear e hks1 hin
      go_wp2_with fail
      refine (wrong_ok sc scap ks T[k] _ _ (HKS.out.keep (HK1.out _)) (HV.out.ok k hlt)).mono ?_
      rintro e w1 ⟨rfl, hb1⟩
      have k1 : w1.cell? ⟨wr.heap.size, 0, none⟩ = some (.int .i64 T[k].dO) := (hb1.cell (p := ⟨wr.heap.size, 0, none⟩) (by simp)).trans (by simp)
      clear c1 c2 c3 c4
      go_wp2_with (go_at_call 67; refine (takes_any _ _).mono ?_; rintro e w' ⟨rfl, rfl⟩)
      go_roundw
      case rel => exact ⟨k + 1, by omega, by go_num, by rw [HC.out], (hB.alloc (by omega) _).trans (hb1.mono (by simp; omega))⟩
      case measure => simp [intOf]; omega
    · have hke : k = T.length := by omega
      have HE : Hid (k = T.length) := hke
      have hz := hB.size
      simp at hz
      have hbox : wr.heap[w.heap.size]? = some (.cells #[.slice none 0 0, .slice none 0 0] 92 (0, 0)) := (hB.block _ (by omega)).trans (heap_alloc_new w _)
      have b0 : wr.cell? ⟨w.heap.size, 0, none⟩ = some (.slice none 0 0) := by rw [cell_of_row _ _ _ _ _ _ hbox]; rfl
      have b1 : wr.cell? ⟨w.heap.size, 1, none⟩ = some (.slice none 0 0) := by rw [cell_of_row _ _ _ _ _ _ hbox]; rfl
      have f0 : wr.frozen? ⟨w.heap.size, 0, none⟩ = false := by simp [World.frozen?, hbox]
      have f1 : wr.frozen? ⟨w.heap.size, 1, none⟩ = false := by simp [World.frozen?, hbox]
      have hone : (T.length : Int) ≤ 0 ∨ (cntI (T.take k) 0 == 1) = true := by
        rcases HV.out.one with h | h
        · left; rw [h]; simp
        · right; rw [hke, List.take_length, h]; rfl
      clear hke
      have hBw : Below w.heap.size w wr := ((Below.refl _ _).alloc (Nat.le_refl _) _).trans (hB.mono (by omega))
      generalize cntI (T.take k) 0 = cc at *
      rcases hone with h0 | h1
      all_goals
        go_wp2
        all_goals exact bodyPost_ret (v := .tuple #[.agg #[.slice (some ⟨sc, 0, none⟩) ks.length scap, .slice ta T.length tcap], .nilIface]) (by simp [results, Tryd.results45, go_sem, b0, b1]) rfl ⟨rfl, (hBw.setCell (Nat.le_refl _) _).setCell (Nat.le_refl _) _⟩

end Go.Proofs.YtcconhgbefhdeaaDoor
