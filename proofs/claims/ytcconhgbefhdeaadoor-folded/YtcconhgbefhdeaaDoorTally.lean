import Derived.Test.YtcconhgbefhdeaaDoorScan
import Derived.Deep.QuietTactic
import Derived.BigQuiet
namespace Go.Proofs.YtcconhgbefhdeaaDoor
open Go.RowKit

set_option maxHeartbeats 1000000 in
theorem tallyNew_ok (sc scap : Nat) (ks : List Int) (c : Nat) (how : Int) (w : World) (hks : KindsIn w sc ks) (hc : c < ks.length) (hh : how = 1 ∨ how = 2 ∨ how = 3) (h1 : how = 1 → ks[c] = 1) :
    Calls Tryd.prog 50 #[.slice (some ⟨sc, 0, none⟩) ks.length scap, .int .i64 c, .int .i64 how] w fun e w' => e = .returned (.tuple #[.pointer (some ⟨w.heap.size, 0, none⟩), .nilIface]) ∧
      w' = w.alloc (.cells #[.int .i64 ks[c], .int .i64 how, .int .i64 0, .string ⟨#[]⟩, .int .i64 0] 145) := by
  have k1 := hks c hc
  have hc0 : (0 : Int) ≤ (c : Int) := by omega
  have hc1 : (c : Int) < (ks.length : Int) := by omega
  have hcn : ¬ (c : Int) < 0 := by omega
  rcases hh with rfl | rfl | rfl
  · have h2 := h1 rfl
    rw [h2] at k1 ⊢
    go_enter Tryd.func50, Tryd.ntmps50
    go_wp2
    go_ret2
    exact ⟨rfl, rfl⟩
  · generalize ks[c] = kd at *
    go_enter Tryd.func50, Tryd.ntmps50
    go_wp2
    go_ret2
    exact ⟨rfl, rfl⟩
  · generalize ks[c] = kd at *
    go_enter Tryd.func50, Tryd.ntmps50
    go_wp2
    go_ret2
    exact ⟨rfl, rfl⟩

theorem min_str (s t : ByteArray) (w : World) : (Builtin.min_ #[9, 9] 9 #[.string s, .string t]).run Tryd.prog w = .ok (.string (if ltS s t || eqS s t then s else t)) w := by
  simp [Builtin.min_, Builtin.min2, Op.stringOp, ltS, eqS, asBool]
theorem max_str (s t : ByteArray) (w : World) : (Builtin.max_ #[9, 9] 9 #[.string s, .string t]).run Tryd.prog w = .ok (.string (if !ltS s t then s else t)) w := by
  simp [Builtin.max_, Builtin.max2, Op.stringOp, ltS, asBool]

def leastN (a b : Int) : Int := min a b
def mostN (a b : Int) : Int := max a b
def leastS (a b : ByteArray) : ByteArray := if ltS a b || eqS a b then a else b
def mostS (a b : ByteArray) : ByteArray := if !ltS a b then a else b

set_option maxHeartbeats 1000000 in
theorem least_plain (kd n1 n2 : Int) (s1 s2 : ByteArray) (w : World) (hk : ¬ kd = 2) :
    Calls Tryd.prog 75 #[.int .i64 kd, .agg #[.int .i64 n1, .string s1], .agg #[.int .i64 n2, .string s2]] w fun e w' => e = .returned (.agg #[.int .i64 (leastN n1 n2), .string (leastS s1 s2)]) ∧ Below w.heap.size w w' := by
  have hk' : (kd == 2) = false := by simpa using hk
  have hm := min_str s1 s2
  obtain ⟨S, hS⟩ : ∃ S, S = leastS s1 s2 := ⟨_, rfl⟩
  unfold leastS at hS
  rw [← hS] at hm
  have HS : Hid (S = leastS s1 s2) := hS
  clear hS hk
  go_enter Tryd.func75, Tryd.ntmps75
  go_wp2
  refine bodyPost_ret (v := .agg #[.int .i64 (min n1 n2), .string S]) (by simp [results, Tryd.results75, go_sem]) rfl ⟨by rw [HS.out]; rfl, ?_⟩
  exact (((Below.refl _ _).alloc (Nat.le_refl _) _).alloc (by simp) _).alloc (by simp; omega) _

set_option maxHeartbeats 1000000 in
theorem most_plain (kd n1 n2 : Int) (s1 s2 : ByteArray) (w : World) (hk : ¬ kd = 2) :
    Calls Tryd.prog 76 #[.int .i64 kd, .agg #[.int .i64 n1, .string s1], .agg #[.int .i64 n2, .string s2]] w fun e w' => e = .returned (.agg #[.int .i64 (mostN n1 n2), .string (mostS s1 s2)]) ∧ Below w.heap.size w w' := by
  have hk' : (kd == 2) = false := by simpa using hk
  have hm := max_str s1 s2
  obtain ⟨S, hS⟩ : ∃ S, S = mostS s1 s2 := ⟨_, rfl⟩
  unfold mostS at hS
  rw [← hS] at hm
  have HS : Hid (S = mostS s1 s2) := hS
  clear hS hk
  go_enter Tryd.func76, Tryd.ntmps76
  go_wp2
  refine bodyPost_ret (v := .agg #[.int .i64 (max n1 n2), .string S]) (by simp [results, Tryd.results76, go_sem]) rfl ⟨by rw [HS.out]; rfl, ?_⟩
  exact (((Below.refl _ _).alloc (Nat.le_refl _) _).alloc (by simp) _).alloc (by simp; omega) _

/-- What comes of one more value, behind the first. -/
def foldV (how : Int) (a v : Int × ByteArray) : Int × ByteArray :=
  if how = 1 then (wrap64 (a.1 + v.1), a.2) else if how = 2 then (leastN a.1 v.1, leastS a.2 v.2) else (mostN a.1 v.1, mostS a.2 v.2)

def TallyAt (w : World) (tb : Nat) (kd how : Int) (a : Int × ByteArray) (n : Nat) : Prop := w.heap[tb]? = some (.cells #[.int .i64 kd, .int .i64 how, .int .i64 a.1, .string a.2, .int .i64 n] 145 (0, 0))

set_option maxRecDepth 100000 in
set_option maxHeartbeats 1000000 in
theorem tallyAdd_ok (tb : Nat) (kd how : Int) (a v : Int × ByteArray) (n : Nat) (w : World) (h : TallyAt w tb kd how a n) (hh : how = 1 ∨ how = 2 ∨ how = 3) (hk : ¬ kd = 2) (hn : n ≤ 1000) :
    Calls Tryd.prog 51 #[.pointer (some ⟨tb, 0, none⟩), .agg #[.int .i64 v.1, .string v.2]] w fun e w' => e = .returned (.tuple #[]) ∧ Fr [tb] w w' ∧ TallyAt w' tb kd how (if n = 0 then v else foldV how a v) (n + 1) := by
  obtain ⟨an, asx⟩ := a
  obtain ⟨vn, vs⟩ := v
  have htb : tb < w.heap.size := (Array.getElem?_eq_some_iff.1 h).1
  have hne : ¬ w.heap.size = tb := by omega
  have HT : Hid (TallyAt w tb kd how (an, asx) n) := h
  have c0 : ∀ o, (w.alloc o).cell? ⟨tb, 0, none⟩ = some (.int .i64 kd) := fun o => (cell_alloc w o _ _ htb).trans (by rw [cell_of_row _ _ _ _ _ _ h]; rfl)
  have c1 : ∀ o, (w.alloc o).cell? ⟨tb, 1, none⟩ = some (.int .i64 how) := fun o => (cell_alloc w o _ _ htb).trans (by rw [cell_of_row _ _ _ _ _ _ h]; rfl)
  have c2 : ∀ o, (w.alloc o).cell? ⟨tb, 2, none⟩ = some (.int .i64 an) := fun o => (cell_alloc w o _ _ htb).trans (by rw [cell_of_row _ _ _ _ _ _ h]; rfl)
  have c3 : ∀ o, (w.alloc o).cell? ⟨tb, 3, none⟩ = some (.string asx) := fun o => (cell_alloc w o _ _ htb).trans (by rw [cell_of_row _ _ _ _ _ _ h]; rfl)
  have c4 : ∀ o, (w.alloc o).cell? ⟨tb, 4, none⟩ = some (.int .i64 n) := fun o => (cell_alloc w o _ _ htb).trans (by rw [cell_of_row _ _ _ _ _ _ h]; rfl)
  have f4 : ∀ o, (w.alloc o).frozen? ⟨tb, 4, none⟩ = false := fun o => (frozen_alloc w o _ _ htb).trans (by simp [World.frozen?, show w.heap[tb]? = _ from h])
  have hset : ∀ u, (w.setCell ⟨tb, 4, none⟩ u).heap[tb]? = some (.cells #[.int .i64 kd, .int .i64 how, .int .i64 an, .string asx, u] 145 (0, 0)) := fun u => heap_setCell_same _ _ _ _ _ _ h
  have hsz : ∀ u, (w.setCell ⟨tb, 4, none⟩ u).heap.size = w.heap.size := fun u => by simp [World.setCell]
  have hal : ∀ u o, ((w.setCell ⟨tb, 4, none⟩ u).alloc o).heap[tb]? = some (.cells #[.int .i64 kd, .int .i64 how, .int .i64 an, .string asx, u] 145 (0, 0)) := fun u o => (Below.heap_alloc _ _ _ (by rw [hsz]; exact htb)).trans (hset u)
  have d0 : ∀ u o, ((w.setCell ⟨tb, 4, none⟩ u).alloc o).cell? ⟨tb, 0, none⟩ = some (.int .i64 kd) := fun u o => by rw [cell_of_row _ _ _ _ _ _ (hal u o)]; rfl
  have d1 : ∀ u o, ((w.setCell ⟨tb, 4, none⟩ u).alloc o).cell? ⟨tb, 1, none⟩ = some (.int .i64 how) := fun u o => by rw [cell_of_row _ _ _ _ _ _ (hal u o)]; rfl
  have d2 : ∀ u o, ((w.setCell ⟨tb, 4, none⟩ u).alloc o).cell? ⟨tb, 2, none⟩ = some (.int .i64 an) := fun u o => by rw [cell_of_row _ _ _ _ _ _ (hal u o)]; rfl
  have d3 : ∀ u o, ((w.setCell ⟨tb, 4, none⟩ u).alloc o).cell? ⟨tb, 3, none⟩ = some (.string asx) := fun u o => by rw [cell_of_row _ _ _ _ _ _ (hal u o)]; rfl
  have d4 : ∀ u o, ((w.setCell ⟨tb, 4, none⟩ u).alloc o).cell? ⟨tb, 4, none⟩ = some (u) := fun u o => by rw [cell_of_row _ _ _ _ _ _ (hal u o)]; rfl
  have g2 : ∀ u o, ((w.setCell ⟨tb, 4, none⟩ u).alloc o).frozen? ⟨tb, 2, none⟩ = false := fun u o => by simp [World.frozen?, hal u o]
  have g3 : ∀ u o, ((w.setCell ⟨tb, 4, none⟩ u).alloc o).frozen? ⟨tb, 3, none⟩ = false := fun u o => by simp [World.frozen?, hal u o]
  have hal2 : ∀ u v o, (((w.setCell ⟨tb, 4, none⟩ u).setCell ⟨tb, 2, none⟩ v).alloc o).heap[tb]? = some (.cells #[.int .i64 kd, .int .i64 how, v, .string asx, u] 145 (0, 0)) := fun u v o => (Below.heap_alloc _ _ _ (by simp [World.setCell]; exact htb)).trans (heap_setCell_same _ _ _ _ _ _ (hset u))
  have e3 : ∀ u v o, (((w.setCell ⟨tb, 4, none⟩ u).setCell ⟨tb, 2, none⟩ v).alloc o).cell? ⟨tb, 3, none⟩ = some (.string asx) := fun u v o => by rw [cell_of_row _ _ _ _ _ _ (hal2 u v o)]; rfl
  have k3 : ∀ u v o, (((w.setCell ⟨tb, 4, none⟩ u).setCell ⟨tb, 2, none⟩ v).alloc o).frozen? ⟨tb, 3, none⟩ = false := fun u v o => by simp [World.frozen?, hal2 u v o]
  have HAL : Hid (∀ u o, ((w.setCell ⟨tb, 4, none⟩ u).alloc o).heap[tb]? = some (.cells #[.int .i64 kd, .int .i64 how, .int .i64 an, .string asx, u] 145 (0, 0))) := hal
  have HFR : Hid (∀ u o, Fr [tb] w ((w.setCell ⟨tb, 4, none⟩ u).alloc o)) := fun u o => ((Fr.refl _ _).setCell (p := ⟨tb, 4, none⟩) (.inl (by simp)) _).alloc _
  have HSZ : Hid (∀ u, (w.setCell ⟨tb, 4, none⟩ u).heap.size = w.heap.size) := hsz
  have hw1 : IntKind.i64.wrap ((n : Int) + 1) = (n : Int) + 1 := by rw [IntKind.wrap_i64]; omega
  clear h hset hsz hal hal2
  by_cases h0 : n = 0
  · subst h0
    go_enter Tryd.func51, Tryd.ntmps51
    go_wp2
    go_end0
    refine ⟨rfl, ((Fr.setCell (p := ⟨tb, 3, none⟩) (Fr.setCell (p := ⟨tb, 2, none⟩) ((Fr.refl _ _).setCell (p := ⟨tb, 4, none⟩) (.inl (by simp)) _) (.inl (by simp)) _) (.inl (by simp)) _)).alloc _, ?_⟩
    exact (Below.heap_alloc _ _ _ (by simp [World.setCell]; exact htb)).trans (heap_setCell_same _ _ _ _ _ _ (heap_setCell_same _ _ _ _ _ _ (heap_setCell_same _ _ _ _ _ _ HT.out)))
  · have h1 : ¬ (n : Int) + 1 = 1 := by omega
    have h2 : ((n : Int) + 1 == 1) = false := by simpa using h1
    have hmx : Tryd.prog.follows .mixedOrders = true := by kernel_rfl
    rcases hh with rfl | rfl | rfl
    · go_enter Tryd.func51, Tryd.ntmps51
      go_wp2
      go_region
      all_goals
        go_wp2
        go_end0
        refine ⟨rfl, (((Fr.setCell (p := ⟨tb, 2, none⟩) ((Fr.refl _ _).setCell (p := ⟨tb, 4, none⟩) (.inl (by simp)) _) (.inl (by simp)) _)).alloc _).drew, ?_⟩
        exact (Below.heap_alloc _ _ _ (by simp [World.setCell]; exact htb)).trans (heap_setCell_same _ _ _ _ _ _ (heap_setCell_same _ _ _ _ _ _ HT.out))
    · go_enter Tryd.func51, Tryd.ntmps51
      go_wp2
      go_region_with
        (first
          | (go_at_call 75; refine (least_plain kd an vn asx vs _ hk).mono ?_; rintro e w1 ⟨rfl, hb1⟩
             have hblk : w1.heap[tb]? = some (.cells #[.int .i64 kd, .int .i64 2, .int .i64 an, .string asx, .int .i64 ((n : Int) + 1)] 145 (0, 0)) := (hb1.block _ (by simp [World.setCell]; omega)).trans (HAL.out _ _)
             have q2 : w1.cell? ⟨tb, 2, none⟩ = some (.int .i64 an) := by rw [cell_of_row _ _ _ _ _ _ hblk]; rfl
             have q3 : w1.frozen? ⟨tb, 2, none⟩ = false := by simp [World.frozen?, hblk]
             have q4 : ∀ v, (w1.setCell ⟨tb, 2, none⟩ v).cell? ⟨tb, 3, none⟩ = some (.string asx) := fun v => by rw [cell_of_row _ _ _ _ _ _ (heap_setCell_same _ _ _ _ _ _ hblk)]; rfl
             have q5 : ∀ v, (w1.setCell ⟨tb, 2, none⟩ v).frozen? ⟨tb, 3, none⟩ = false := fun v => by simp [World.frozen?, heap_setCell_same _ _ _ _ _ _ hblk]
             have HBK : Hid (w1.heap[tb]? = some (.cells #[.int .i64 kd, .int .i64 2, .int .i64 an, .string asx, .int .i64 ((n : Int) + 1)] 145 (0, 0))) := hblk
             clear hblk))
      all_goals
        go_wp2
        go_end0
        refine ⟨rfl, ?_, ?_⟩
        · refine Fr.setCell (p := ⟨tb, 3, none⟩) (Fr.setCell (p := ⟨tb, 2, none⟩) ?_ (.inl (by simp)) _) (.inl (by simp)) _
          exact ((HFR.out _ _).drew).then hb1
        · skip
          exact heap_setCell_same _ _ _ _ _ _ (heap_setCell_same _ _ _ _ _ _ HBK.out)
    · go_enter Tryd.func51, Tryd.ntmps51
      go_wp2
      go_region_with
        (first
          | (go_at_call 76; refine (most_plain kd an vn asx vs _ hk).mono ?_; rintro e w1 ⟨rfl, hb1⟩
             have hblk : w1.heap[tb]? = some (.cells #[.int .i64 kd, .int .i64 3, .int .i64 an, .string asx, .int .i64 ((n : Int) + 1)] 145 (0, 0)) := (hb1.block _ (by simp [World.setCell]; omega)).trans (HAL.out _ _)
             have q2 : w1.cell? ⟨tb, 2, none⟩ = some (.int .i64 an) := by rw [cell_of_row _ _ _ _ _ _ hblk]; rfl
             have q3 : w1.frozen? ⟨tb, 2, none⟩ = false := by simp [World.frozen?, hblk]
             have q4 : ∀ v, (w1.setCell ⟨tb, 2, none⟩ v).cell? ⟨tb, 3, none⟩ = some (.string asx) := fun v => by rw [cell_of_row _ _ _ _ _ _ (heap_setCell_same _ _ _ _ _ _ hblk)]; rfl
             have q5 : ∀ v, (w1.setCell ⟨tb, 2, none⟩ v).frozen? ⟨tb, 3, none⟩ = false := fun v => by simp [World.frozen?, heap_setCell_same _ _ _ _ _ _ hblk]
             have HBK : Hid (w1.heap[tb]? = some (.cells #[.int .i64 kd, .int .i64 3, .int .i64 an, .string asx, .int .i64 ((n : Int) + 1)] 145 (0, 0))) := hblk
             clear hblk))
      all_goals
        go_wp2
        go_end0
        refine ⟨rfl, ?_, ?_⟩
        · refine Fr.setCell (p := ⟨tb, 3, none⟩) (Fr.setCell (p := ⟨tb, 2, none⟩) ?_ (.inl (by simp)) _) (.inl (by simp)) _
          exact ((HFR.out _ _).drew).then hb1
        · skip
          exact heap_setCell_same _ _ _ _ _ _ (heap_setCell_same _ _ _ _ _ _ HBK.out)

end Go.Proofs.YtcconhgbefhdeaaDoor
