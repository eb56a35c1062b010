import Derived.Test.YtcconhgbefhdeaaDoorProg
import Derived.WalkKit
import Derived.WalkSpells
import Derived.WalkLawsBesides
import Derived.Deep.AppendLies
import Derived.Deep.QuietTactic
import Derived.BigQuiet
import Derived.Deep.RegionHeld3
import Derived.Deep.DrawnRows
import Ieee.Arith
import GoSem.Core.Value
namespace Go.Proofs.YtcconhgbefhdeaaDoor
open Go.RowKit

/-- All blocks that were there, but for those listed, are as they were. -/
structure Fr (S : List Nat) (w w' : World) : Prop where
  os : w'.os = w.os
  tape : w'.tape = w.tape
  output : w'.output = w.output
  size : w.heap.size ≤ w'.heap.size
  block : ∀ k, k < w.heap.size → k ∉ S → w'.heap[k]? = w.heap[k]?

theorem Fr.refl (S : List Nat) (w : World) : Fr S w w := ⟨rfl, rfl, rfl, Nat.le_refl _, fun _ _ _ => rfl⟩
theorem Fr.trans {S T : List Nat} {a b c : World} (h : Fr S a b) (k : Fr T b c) (hT : ∀ i ∈ T, i ∈ S ∨ a.heap.size ≤ i) : Fr S a c :=
  ⟨k.os.trans h.os, k.tape.trans h.tape, k.output.trans h.output, Nat.le_trans h.size k.size, fun i hi hn =>
    (k.block i (Nat.lt_of_lt_of_le hi h.size) (fun hm => (hT i hm).elim hn (fun h => by omega))).trans (h.block i hi hn)⟩
theorem Fr.then {S : List Nat} {a b c : World} (h : Fr S a b) (k : Below b.heap.size b c) : Fr S a c :=
  ⟨k.os.trans h.os, k.tape.trans h.tape, k.output.trans h.output, Nat.le_trans h.size k.size, fun i hi hn =>
    (k.block i (Nat.lt_of_lt_of_le hi h.size)).trans (h.block i hi hn)⟩
theorem Fr.of_below {S : List Nat} {a b : World} (k : Below a.heap.size a b) : Fr S a b := (Fr.refl S a).then k
theorem Fr.mono {S T : List Nat} {a b : World} (h : Fr S a b) (hT : ∀ i ∈ S, i ∈ T) : Fr T a b :=
  ⟨h.os, h.tape, h.output, h.size, fun i hi hn => h.block i hi (fun hm => hn (hT i hm))⟩
theorem Fr.below {S : List Nat} {a b : World} {B : Nat} (h : Fr S a b) (hB : B ≤ a.heap.size) (hS : ∀ i ∈ S, B ≤ i) : Below B a b :=
  ⟨h.os, h.tape, h.output, h.size, fun k hk => h.block k (by omega) (fun hm => by have := hS k hm; omega)⟩
theorem Fr.setCell {S : List Nat} {a w : World} (h : Fr S a w) {p : Addr} (hp : p.block ∈ S ∨ a.heap.size ≤ p.block) (u : Value) : Fr S a (w.setCell p u) :=
  ⟨h.os, h.tape, h.output, Nat.le_trans h.size (by simp [World.setCell]), fun k hk hn => (Below.heap_setCell _ _ _ _ (fun e => by
    subst e; rcases hp with hp | hp
    · exact hn hp
    · omega)).trans (h.block k hk hn)⟩
theorem Fr.alloc {S : List Nat} {a w : World} (h : Fr S a w) (o : Obj) : Fr S a (w.alloc o) :=
  h.then ((Below.refl _ _).alloc (Nat.le_refl _) _)
theorem Fr.drew {S : List Nat} {a w : World} (h : Fr S a w) : Fr S a w.drew := ⟨h.os, h.tape, h.output, h.size, h.block⟩
theorem Fr.grown {S : List Nat} {a w w' : World} {row : Option Nat} (h : Fr S a w) (hg : w.grownBy w' row) (hr : ∀ k, row = some k → k ∈ S ∨ a.heap.size ≤ k) : Fr S a w' :=
  ⟨hg.os.trans h.os, hg.tape.trans h.tape, hg.output.trans h.output, Nat.le_trans h.size hg.size, fun k hk hn =>
    (hg.block k (Nat.lt_of_lt_of_le hk h.size) (fun e => by
      rcases hr k e.symm with h1 | h1
      · exact hn h1
      · omega)).trans (h.block k hk hn)⟩
theorem Fr.cell {S : List Nat} {a w : World} (h : Fr S a w) (b o : Nat) (hb : b < a.heap.size) (hn : b ∉ S) : w.cell? ⟨b, o, none⟩ = a.cell? ⟨b, o, none⟩ :=
  World.cell?_of_block (w := a) (h.block b hb hn)

theorem bcell {W w1 : World} (hb : Below W.heap.size W w1) : (∀ b o, b < W.heap.size → w1.cell? ⟨b, o, none⟩ = W.cell? ⟨b, o, none⟩) ∧ (∀ b o, b < W.heap.size → w1.frozen? ⟨b, o, none⟩ = W.frozen? ⟨b, o, none⟩) :=
  ⟨fun b o h => hb.cell (p := ⟨b, o, none⟩) h, fun b o h => hb.frozen (p := ⟨b, o, none⟩) h⟩

theorem frozen_alloc (w : World) (o : Obj) (b i : Nat) (h : b < w.heap.size) : (w.alloc o).frozen? ⟨b, i, none⟩ = w.frozen? ⟨b, i, none⟩ :=
  World.frozen?_of_block (w := w) (Below.heap_alloc w o b h)
theorem cell_alloc (w : World) (o : Obj) (b i : Nat) (h : b < w.heap.size) : (w.alloc o).cell? ⟨b, i, none⟩ = w.cell? ⟨b, i, none⟩ :=
  World.cell?_of_block (w := w) (Below.heap_alloc w o b h)

theorem ret_int {k : IntKind} {a b : Int} (h : a = b) : Ending.returned (.int k a) = .returned (.int k b) := by rw [h]
theorem ret_bool {a b : Bool} (h : a = b) : Ending.returned (.bool a) = .returned (.bool b) := by rw [h]

/-- A row's values, as cells. -/
def vcells : List (Int × ByteArray) → List Value
  | [] => []
  | p :: r => .int .i64 p.1 :: .string p.2 :: vcells r

theorem vcells_length (r : List (Int × ByteArray)) : (vcells r).length = 2 * r.length := by
  induction r with
  | nil => rfl
  | cons p r ih => simp [vcells, ih]; omega

theorem vcells_append (a b : List (Int × ByteArray)) : vcells (a ++ b) = vcells a ++ vcells b := by
  induction a with
  | nil => rfl
  | cons p a ih => simp [vcells, ih]

theorem vcells_at (r : List (Int × ByteArray)) (i : Nat) (h : i < r.length) : (vcells r)[2 * i]? = some (.int .i64 r[i].1) ∧ (vcells r)[2 * i + 1]? = some (.string r[i].2) := by
  induction r generalizing i with
  | nil => simp at h
  | cons p r ih =>
    cases i with
    | zero => simp [vcells]
    | succ i =>
      have := ih i (by simpa using h)
      have e1 : 2 * (i + 1) = (2 * i) + 1 + 1 := by omega
      rw [e1]
      simpa [vcells] using this

theorem vcells_one (r : List (Int × ByteArray)) : ∀ u ∈ vcells r, u.oneCell' = true := by
  induction r with
  | nil => simp [vcells]
  | cons p r ih =>
    intro u hu
    simp [vcells] at hu
    rcases hu with rfl | rfl | hu
    · rfl
    · rfl
    · exact ih u hu

theorem take_set2 (l : List Value) (k : Nat) (a b : Value) (h : k * 2 + 1 < l.length) : ((l.set (k * 2) a).set (k * 2 + 1) b).take (2 * (k + 1)) = l.take (2 * k) ++ [a, b] := by
  apply List.ext_getElem?
  intro i
  rw [List.getElem?_take, List.getElem?_append]
  simp only [List.length_take, List.getElem?_set, List.length_set, List.getElem?_take]
  by_cases h1 : i < 2 * k
  · rw [if_pos (by omega), if_neg (by omega), if_neg (by omega), if_pos (by omega), if_pos h1]
  · by_cases h2 : i = 2 * k
    · subst h2
      rw [if_pos (by omega), if_neg (by omega), if_pos (by omega), if_pos (by omega), if_neg (by omega), show 2 * k - min (2 * k) l.length = 0 by omega]
      rfl
    · by_cases h3 : i = 2 * k + 1
      · subst h3
        rw [if_pos (by omega), if_pos (by omega), if_pos (by omega), if_neg (by omega), show 2 * k + 1 - min (2 * k) l.length = 1 by omega]
        rfl
      · rw [if_neg (by omega), if_neg (by omega)]
        symm
        apply List.getElem?_eq_none
        simp; omega

theorem vcells_take_succ (r : List (Int × ByteArray)) (k : Nat) (h : k < r.length) : vcells (r.take (k + 1)) = vcells (r.take k) ++ [.int .i64 r[k].1, .string r[k].2] := by
  rw [List.take_succ_eq_append_getElem h, vcells_append]; rfl

/-- Values that lie in memory from block g on. -/
def RowIn (w : World) (g : Nat) (r : List (Int × ByteArray)) : Prop :=
  ∀ i (h : i < r.length), w.cell? ⟨g, i * 2, none⟩ = some (.int .i64 r[i].1) ∧ w.cell? ⟨g, i * 2 + 1, none⟩ = some (.string r[i].2)

theorem RowIn.of_block {w : World} {g : Nat} {r : List (Int × ByteArray)} {cs : Array Value} {t : TypeId} {fr : Nat × Nat} (hg : w.heap[g]? = some (.cells cs t fr)) (ht : cs.toList.take (2 * r.length) = vcells r) : RowIn w g r := by
  intro i h
  obtain ⟨h1, h2⟩ := vcells_at r i h
  rw [← ht, List.getElem?_take, if_pos (by omega)] at h1 h2
  rw [cell_of_row w g _ cs t fr hg, cell_of_row w g _ cs t fr hg, Nat.mul_comm i 2]
  exact ⟨by simpa using h1, by simpa using h2⟩

theorem RowIn.lt {w : World} {g : Nat} {r : List (Int × ByteArray)} (h : RowIn w g r) (hr : 0 < r.length) : g < w.heap.size :=
  World.block_lt_of_cell? w ⟨g, 0 * 2, none⟩ (h 0 hr).1

theorem RowIn.keep {w w' : World} {g : Nat} {r : List (Int × ByteArray)} (h : RowIn w g r) (hb : w'.heap[g]? = w.heap[g]?) : RowIn w' g r := fun i hi => by
  obtain ⟨a, b⟩ := h i hi
  exact ⟨(World.cell?_of_block (w := w) (a := ⟨g, _, none⟩) hb).trans a, (World.cell?_of_block (w := w) (a := ⟨g, _, none⟩) hb).trans b⟩

end Go.Proofs.YtcconhgbefhdeaaDoor

namespace Go.Proofs.YtcconhgbefhdeaaDoor
open Go.RowKit


def isTypeB (k : Int) : Bool := decide (1 ≤ k ∧ k ≤ 4)

set_option maxHeartbeats 400000 in
theorem isType_any (k : Int) (w : World) :
    Calls Tryd.prog 62 #[.int .i64 k] w fun e w' => e = .returned (.bool (isTypeB k)) ∧ w' = w := by
  unfold isTypeB
  go_enter Tryd.func62, Tryd.ntmps62
  go_wp2
  all_goals go_ret
  all_goals simp_all
  all_goals omega

def takesI (d : Int) : Int := if d = 7 ∨ d = 8 then 2 else if d = 9 then 1 else 0

set_option maxHeartbeats 400000 in
theorem takes_any (d : Int) (w : World) :
    Calls Tryd.prog 67 #[.int .i64 d] w fun e w' => e = .returned (.int .i64 (takesI d)) ∧ w' = w := by
  unfold takesI
  go_enter Tryd.func67, Tryd.ntmps67
  go_wp2
  all_goals go_ret
  all_goals simp_all


def pickI (c n : Int) : Int := (if c < 0 then -(c + 1) else c) % n

set_option maxHeartbeats 400000 in
theorem pick_any (c n : Int) (w : World) (h1 : -9223372036854775808 ≤ c) (h2 : c ≤ 9223372036854775807) (hn : 0 < n) (hn2 : n ≤ 1000000) :
    Calls Tryd.prog 18 #[.int .i64 c, .int .i64 n] w fun e w' => e = .returned (.int .i64 (pickI c n)) ∧ w' = w := by
  unfold pickI
  by_cases h : c < 0
  · go_enter Tryd.func18, Tryd.ntmps18
    go_wp2
    all_goals go_ret
    exact ⟨ret_int (by have := Int.tmod_eq_emod_of_nonneg (a := -(c + 1)) (b := n) (by omega); rw [← this, Int.neg_tmod]), rfl⟩
  · go_enter Tryd.func18, Tryd.ntmps18
    go_wp2
    all_goals go_ret
    all_goals simp_all

def magI (n : Int) : Int := if n < 0 then n + 9223372036854775808 else n
def noneB (n : Int) : Bool := decide (9218868437227405312 < magI n)

set_option maxHeartbeats 400000 in
theorem none_any (n : Int) (w : World) (h1 : -9223372036854775808 ≤ n) (h2 : n ≤ 9223372036854775807) :
    Calls Tryd.prog 31 #[.int .i64 n] w fun e w' => e = .returned (.bool (noneB n)) ∧ w' = w := by
  by_cases h : n < 0
  · go_enter Tryd.func31, Tryd.ntmps31
    go_wp2
    go_ret
    exact ⟨ret_bool (by unfold noneB magI; rw [if_pos h]; exact decide_eq_decide.2 (by omega)), rfl⟩
  · go_enter Tryd.func31, Tryd.ntmps31
    go_wp2
    go_ret
    exact ⟨ret_bool (by unfold noneB magI; rw [if_neg (by omega)]), rfl⟩

def bitsN (n : Int) : Nat := (IntKind.u64.wrap n).toNat

theorem run_frombits (x : Int) (w : World) : (callFunc 95 #[.int .u64 x]).run Tryd.prog w = .ok (.value (.float .f64 x.toNat)) w := by
  rw [run_callFunc_extern (fn := Tryd.f95) (e := Extern.MathFloatBits.float64frombits) (by kernel_rfl) (by kernel_rfl) (by kernel_rfl) (by kernel_rfl) (by kernel_rfl)]
  rfl

set_option maxRecDepth 100000 in
set_option maxHeartbeats 400000 in
theorem number_any (n : Int) (s : ByteArray) (w : World) :
    Calls Tryd.prog 87 #[.agg #[.int .i64 n, .string s]] w fun e w' => e = .returned (.float .f64 (bitsN n)) ∧ w' = w.alloc (.cells #[.int .i64 n, .string s] 30) := by
  have hf := run_frombits
  go_enter Tryd.func87, Tryd.ntmps87
  go_wp2
  go_ret
  exact ⟨rfl, rfl⟩

end Go.Proofs.YtcconhgbefhdeaaDoor

namespace Go.Proofs.YtcconhgbefhdeaaDoor
open Go.RowKit

attribute [local go_sem ↓] Go.wp_at_zero Go.wp_at_succ

def cmpB (d : Int) (eq lt gt : Bool) : Bool :=
  if d = 1 then eq else if d = 2 then !eq else if d = 3 then lt else if d = 4 then lt || eq else if d = 5 then gt else if d = 6 then gt || eq else false

set_option maxHeartbeats 400000 in
theorem holdsI_any (d a b : Int) (w : World) :
    Calls Tryd.prog 93 #[.int .i64 d, .int .i64 a, .int .i64 b] w fun e w' => e = .returned (.bool (cmpB d (a == b) (decide (a < b)) (decide (b < a)))) ∧ w' = w := by
  go_enter Tryd.func93, Tryd.ntmps93
  go_wp2
  all_goals go_ret
  all_goals refine ⟨ret_bool ?_, rfl⟩
  all_goals unfold cmpB
  all_goals simp_all
  all_goals (rw [Bool.eq_iff_iff]; simp; try omega)

set_option maxHeartbeats 400000 in
theorem holdsF_any (d : Int) (a b : Nat) (w : World) :
    Calls Tryd.prog 91 #[.int .i64 d, .float .f64 a, .float .f64 b] w fun e w' => e = .returned (.bool (cmpB d (Ieee.double.order a b == some .eq) (Ieee.double.order a b == some .lt) (Ieee.double.order a b == some .gt))) ∧ w' = w := by
  go_enter Tryd.func91, Tryd.ntmps91
  go_wp2
  all_goals go_ret
  all_goals refine ⟨ret_bool ?_, rfl⟩
  all_goals unfold cmpB
  all_goals simp_all
  all_goals rfl

theorem bytesLess_irrefl (l : List UInt8) : Op.bytesLess l l = false := by
  induction l with
  | nil => rfl
  | cons c l ih => simp [Op.bytesLess, ih]

def ltS (a b : ByteArray) : Bool := Op.bytesLess a.toList b.toList
def eqS (a b : ByteArray) : Bool := a.toList == b.toList
theorem ltS_eqS (a b : ByteArray) (h : eqS a b = true) : ltS a b = false := by
  unfold eqS at h; unfold ltS; rw [eq_of_beq h]; exact bytesLess_irrefl _

set_option maxHeartbeats 400000 in
theorem holdsS_any (d : Int) (a b : ByteArray) (w : World) :
    Calls Tryd.prog 92 #[.int .i64 d, .string a, .string b] w fun e w' => e = .returned (.bool (cmpB d (eqS a b) (ltS a b) (!ltS a b && !eqS a b))) ∧ w' = w := by
  go_enter Tryd.func92, Tryd.ntmps92
  go_wp2
  all_goals go_ret
  all_goals refine ⟨ret_bool ?_, rfl⟩
  all_goals unfold cmpB
  all_goals simp_all [ltS, eqS]
  all_goals (have hx := ltS_eqS a b; unfold ltS eqS at hx; cases h1 : (a.toList == b.toList) <;> simp_all)

def fitsB (k n : Int) (s : ByteArray) : Bool :=
  if k = 1 ∨ k = 2 then s.toList.isEmpty else if k = 3 then decide (n = 0 ∧ s.size ≤ 40) else if k = 4 then s.toList.isEmpty && (n == 0 || n == 1) else false

set_option maxHeartbeats 400000 in
theorem fits_any (k n : Int) (s : ByteArray) (w : World) :
    Calls Tryd.prog 80 #[.int .i64 k, .agg #[.int .i64 n, .string s]] w fun e w' => e = .returned (.bool (fitsB k n s)) ∧ w' = w.alloc (.cells #[.int .i64 n, .string s] 30) := by
  go_enter Tryd.func80, Tryd.ntmps80
  go_wp2
  all_goals go_ret
  all_goals refine ⟨ret_bool ?_, by first | rfl | simp_all⟩
  all_goals unfold fitsB
  all_goals simp_all
  all_goals omega

def holdsB (k d n : Int) (s : ByteArray) (m : Int) (t : ByteArray) : Bool :=
  if k = 2 then cmpB d (Ieee.double.order (bitsN n) (bitsN m) == some .eq) (Ieee.double.order (bitsN n) (bitsN m) == some .lt) (Ieee.double.order (bitsN n) (bitsN m) == some .gt)
  else if k = 3 then cmpB d (eqS s t) (ltS s t) (!ltS s t && !eqS s t)
  else cmpB d (n == m) (decide (n < m)) (decide (m < n))

set_option maxHeartbeats 400000 in
theorem holds_real (d n : Int) (s : ByteArray) (m : Int) (t : ByteArray) (w : World) :
    Calls Tryd.prog 85 #[.int .i64 2, .int .i64 d, .agg #[.int .i64 n, .string s], .agg #[.int .i64 m, .string t]] w fun e w' => e = .returned (.bool (holdsB 2 d n s m t)) ∧ Below w.heap.size w w' := by
  go_enter Tryd.func85, Tryd.ntmps85
  go_wp2_with fail
  go_region_held3 (fun w' => w'.cell? ⟨w.heap.size, 0, none⟩ = some (.int .i64 n) ∧ w'.cell? ⟨w.heap.size, 1, none⟩ = some (.string s) ∧ w'.cell? ⟨w.heap.size + 1, 0, none⟩ = some (.int .i64 m) ∧ w'.cell? ⟨w.heap.size + 1, 1, none⟩ = some (.string t)) (go_keep)
    (first | (go_at_call 87; refine (number_any _ _ _).mono ?_; rintro e w1 ⟨rfl, rfl⟩) | (go_at_call 91; refine (holdsF_any _ _ _ _).mono ?_; rintro e w1 ⟨rfl, rfl⟩))
  all_goals go_wp2
  all_goals go_ret
  all_goals exact ⟨ret_bool (by simp [holdsB]), (((((Below.refl _ _).alloc (Nat.le_refl _) _).alloc (by simp) _).alloc (by simp; try omega) _).alloc (by simp; try omega) _).drew⟩

set_option maxHeartbeats 400000 in
theorem holds_text (d n : Int) (s : ByteArray) (m : Int) (t : ByteArray) (w : World) :
    Calls Tryd.prog 85 #[.int .i64 3, .int .i64 d, .agg #[.int .i64 n, .string s], .agg #[.int .i64 m, .string t]] w fun e w' => e = .returned (.bool (holdsB 3 d n s m t)) ∧ Below w.heap.size w w' := by
  go_enter Tryd.func85, Tryd.ntmps85
  go_wp2_with (go_at_call 92; refine (holdsS_any _ _ _ _).mono ?_; rintro e w' ⟨rfl, rfl⟩)
  go_ret
  exact ⟨ret_bool (by simp [holdsB]), ((Below.refl _ _).alloc (Nat.le_refl _) _).alloc (by simp) _⟩

set_option maxHeartbeats 400000 in
theorem holds_int (k d n : Int) (s : ByteArray) (m : Int) (t : ByteArray) (w : World) (h2 : k ≠ 2) (h3 : k ≠ 3) :
    Calls Tryd.prog 85 #[.int .i64 k, .int .i64 d, .agg #[.int .i64 n, .string s], .agg #[.int .i64 m, .string t]] w fun e w' => e = .returned (.bool (holdsB k d n s m t)) ∧ Below w.heap.size w w' := by
  go_enter Tryd.func85, Tryd.ntmps85
  go_wp2_with (go_at_call 93; refine (holdsI_any _ _ _ _).mono ?_; rintro e w' ⟨rfl, rfl⟩)
  go_ret
  exact ⟨ret_bool (by simp [holdsB, h2, h3]), ((Below.refl _ _).alloc (Nat.le_refl _) _).alloc (by simp) _⟩

theorem holds_any (k d n : Int) (s : ByteArray) (m : Int) (t : ByteArray) (w : World) :
    Calls Tryd.prog 85 #[.int .i64 k, .int .i64 d, .agg #[.int .i64 n, .string s], .agg #[.int .i64 m, .string t]] w fun e w' => e = .returned (.bool (holdsB k d n s m t)) ∧ Below w.heap.size w w' := by
  by_cases h2 : k = 2
  · subst h2; exact holds_real d n s m t w
  · by_cases h3 : k = 3
    · subst h3; exact holds_text d n s m t w
    · exact holds_int k d n s m t w h2 h3

end Go.Proofs.YtcconhgbefhdeaaDoor

namespace Go.Proofs.YtcconhgbefhdeaaDoor
open Go.RowKit

def tailB (d : Int) (less more : Bool) : Bool :=
  if d = 1 then !less && !more else if d = 2 then less || more else if d = 3 then less else if d = 4 then !more else if d = 5 then more else !less

def realLess (n m : Int) : Bool :=
  if magI n = 0 ∧ magI m = 0 then false else if n < 0 ∧ m < 0 then decide (magI m < magI n) else if n < 0 ∨ m < 0 then decide (n < 0) else decide (n < m)

def saysB (d c n : Int) (s : ByteArray) (m : Int) (t : ByteArray) : Bool :=
  if c = 2 then tailB d (ltS s t) (!ltS s t && !eqS s t)
  else if c = 1 then (if noneB n || noneB m then d == 2 else tailB d (realLess n m) (realLess m n))
  else tailB d (decide (n < m)) (decide (m < n))

set_option maxHeartbeats 400000 in
theorem negative_any (n : Int) (w : World) (h1 : -9223372036854775808 ≤ n) (h2 : n ≤ 9223372036854775807) :
    Calls Tryd.prog 32 #[.int .i64 n] w fun e w' => e = .returned (.tuple #[.bool (decide (n < 0)), .int .i64 (magI n)]) ∧ w' = w := by
  by_cases h : n < 0
  · go_enter Tryd.func32, Tryd.ntmps32
    go_wp2
    go_ret2
    exact ⟨by unfold magI; rw [if_pos h]; simp [h]; omega, rfl⟩
  · go_enter Tryd.func32, Tryd.ntmps32
    go_wp2
    go_ret2
    exact ⟨by unfold magI; rw [if_neg (by omega)]; simp; omega, rfl⟩

set_option maxHeartbeats 400000 in
theorem says_text (d n : Int) (s : ByteArray) (m : Int) (t : ByteArray) (w : World) :
    Calls Tryd.prog 13 #[.int .i64 d, .int .i64 2, .agg #[.int .i64 n, .string s], .agg #[.int .i64 m, .string t]] w fun e w' => e = .returned (.bool (saysB d 2 n s m t)) ∧ Below w.heap.size w w' := by
  go_enter Tryd.func13, Tryd.ntmps13
  go_wp2
  all_goals go_ret
  all_goals refine ⟨ret_bool ?_, ((Below.refl _ _).alloc (Nat.le_refl _) _).alloc (by simp) _⟩
  all_goals unfold saysB tailB ltS eqS
  all_goals simp_all

set_option maxHeartbeats 400000 in
theorem says_plain (d c n : Int) (s : ByteArray) (m : Int) (t : ByteArray) (w : World) (h2 : (c == 2) = false) (h3 : (c == 1) = false) :
    Calls Tryd.prog 13 #[.int .i64 d, .int .i64 c, .agg #[.int .i64 n, .string s], .agg #[.int .i64 m, .string t]] w fun e w' => e = .returned (.bool (saysB d c n s m t)) ∧ Below w.heap.size w w' := by
  go_enter Tryd.func13, Tryd.ntmps13
  go_wp2
  all_goals go_ret
  all_goals refine ⟨ret_bool ?_, ((Below.refl _ _).alloc (Nat.le_refl _) _).alloc (by simp) _⟩
  all_goals unfold saysB tailB
  all_goals simp_all

set_option maxHeartbeats 1000000 in
theorem says_real1 (d n : Int) (s : ByteArray) (m : Int) (t : ByteArray) (w : World) (n1 : -9223372036854775808 ≤ n) (n2 : n ≤ 9223372036854775807) (m1 : -9223372036854775808 ≤ m) (m2 : m ≤ 9223372036854775807) (hn : noneB n = true) :
    Calls Tryd.prog 13 #[.int .i64 d, .int .i64 1, .agg #[.int .i64 n, .string s], .agg #[.int .i64 m, .string t]] w fun e w' => e = .returned (.bool (saysB d 1 n s m t)) ∧ Below w.heap.size w w' := by
  go_enter Tryd.func13, Tryd.ntmps13
  go_wp2_with (first | (go_at_call 31; refine (none_any _ _ (by assumption) (by assumption)).mono ?_; rintro e w' ⟨rfl, rfl⟩) | (go_at_call 32; refine (negative_any _ _ (by assumption) (by assumption)).mono ?_; rintro e w' ⟨rfl, rfl⟩))
  all_goals go_ret
  all_goals refine ⟨ret_bool ?_, ((Below.refl _ _).alloc (Nat.le_refl _) _).alloc (by simp) _⟩
  all_goals unfold saysB tailB realLess
  all_goals simp_all

set_option maxHeartbeats 1000000 in
theorem says_real2 (d n : Int) (s : ByteArray) (m : Int) (t : ByteArray) (w : World) (n1 : -9223372036854775808 ≤ n) (n2 : n ≤ 9223372036854775807) (m1 : -9223372036854775808 ≤ m) (m2 : m ≤ 9223372036854775807) (hn : noneB n = false) (hm : noneB m = true) :
    Calls Tryd.prog 13 #[.int .i64 d, .int .i64 1, .agg #[.int .i64 n, .string s], .agg #[.int .i64 m, .string t]] w fun e w' => e = .returned (.bool (saysB d 1 n s m t)) ∧ Below w.heap.size w w' := by
  go_enter Tryd.func13, Tryd.ntmps13
  go_wp2_with (first | (go_at_call 31; refine (none_any _ _ (by assumption) (by assumption)).mono ?_; rintro e w' ⟨rfl, rfl⟩) | (go_at_call 32; refine (negative_any _ _ (by assumption) (by assumption)).mono ?_; rintro e w' ⟨rfl, rfl⟩))
  all_goals go_ret
  all_goals refine ⟨ret_bool ?_, ((Below.refl _ _).alloc (Nat.le_refl _) _).alloc (by simp) _⟩
  all_goals unfold saysB tailB realLess
  all_goals simp_all

set_option maxHeartbeats 1000000 in
theorem says_real3 (d n : Int) (s : ByteArray) (m : Int) (t : ByteArray) (w : World) (n1 : -9223372036854775808 ≤ n) (n2 : n ≤ 9223372036854775807) (m1 : -9223372036854775808 ≤ m) (m2 : m ≤ 9223372036854775807) (hn : noneB n = false) (hm : noneB m = false) (z1 : (magI n == 0) = true) (z2 : (magI m == 0) = true) :
    Calls Tryd.prog 13 #[.int .i64 d, .int .i64 1, .agg #[.int .i64 n, .string s], .agg #[.int .i64 m, .string t]] w fun e w' => e = .returned (.bool (saysB d 1 n s m t)) ∧ Below w.heap.size w w' := by
  go_enter Tryd.func13, Tryd.ntmps13
  go_wp2_with (first | (go_at_call 31; refine (none_any _ _ (by assumption) (by assumption)).mono ?_; rintro e w' ⟨rfl, rfl⟩) | (go_at_call 32; refine (negative_any _ _ (by assumption) (by assumption)).mono ?_; rintro e w' ⟨rfl, rfl⟩))
  all_goals go_ret
  all_goals refine ⟨ret_bool ?_, ((Below.refl _ _).alloc (Nat.le_refl _) _).alloc (by simp) _⟩
  all_goals unfold saysB tailB realLess
  all_goals simp_all

set_option maxHeartbeats 1000000 in
theorem says_real4 (d n : Int) (s : ByteArray) (m : Int) (t : ByteArray) (w : World) (n1 : -9223372036854775808 ≤ n) (n2 : n ≤ 9223372036854775807) (m1 : -9223372036854775808 ≤ m) (m2 : m ≤ 9223372036854775807) (hn : noneB n = false) (hm : noneB m = false) (z1 : (magI n == 0 && magI m == 0) = false) (s1 : n < 0) (s2 : m < 0) :
    Calls Tryd.prog 13 #[.int .i64 d, .int .i64 1, .agg #[.int .i64 n, .string s], .agg #[.int .i64 m, .string t]] w fun e w' => e = .returned (.bool (saysB d 1 n s m t)) ∧ Below w.heap.size w w' := by
  go_enter Tryd.func13, Tryd.ntmps13
  go_wp2_with (first | (go_at_call 31; refine (none_any _ _ (by assumption) (by assumption)).mono ?_; rintro e w' ⟨rfl, rfl⟩) | (go_at_call 32; refine (negative_any _ _ (by assumption) (by assumption)).mono ?_; rintro e w' ⟨rfl, rfl⟩))
  all_goals go_ret
  all_goals refine ⟨ret_bool ?_, ((Below.refl _ _).alloc (Nat.le_refl _) _).alloc (by simp) _⟩
  all_goals unfold saysB tailB realLess
  all_goals simp_all

end Go.Proofs.YtcconhgbefhdeaaDoor

namespace Go.Proofs.YtcconhgbefhdeaaDoor
open Go.RowKit

set_option maxHeartbeats 1000000 in
theorem says_real5 (d n : Int) (s : ByteArray) (m : Int) (t : ByteArray) (w : World) (n1 : -9223372036854775808 ≤ n) (n2 : n ≤ 9223372036854775807) (m1 : -9223372036854775808 ≤ m) (m2 : m ≤ 9223372036854775807) (hn : noneB n = false) (hm : noneB m = false) (z1 : (magI n == 0 && magI m == 0) = false) (s1 : n < 0) (s2 : ¬ m < 0) :
    Calls Tryd.prog 13 #[.int .i64 d, .int .i64 1, .agg #[.int .i64 n, .string s], .agg #[.int .i64 m, .string t]] w fun e w' => e = .returned (.bool (saysB d 1 n s m t)) ∧ Below w.heap.size w w' := by
  have z2 : ¬ (magI n = 0 ∧ magI m = 0) := by simpa using z1
  have HL : Hid (realLess n m = true) := by
    unfold realLess Hid
    rw [if_neg z2, if_neg (by omega)]
    first | rw [if_neg (by omega)] | (rw [if_pos (by omega)]; simp; omega)
  have HR : Hid (realLess m n = false) := by
    unfold realLess Hid
    rw [if_neg (fun h => z2 ⟨h.2, h.1⟩), if_neg (by omega)]
    first | rw [if_neg (by omega)] | (rw [if_pos (by omega)]; simp; omega)
  clear z2
  go_enter Tryd.func13, Tryd.ntmps13
  go_wp2_with (first | (go_at_call 31; refine (none_any _ _ (by assumption) (by assumption)).mono ?_; rintro e w' ⟨rfl, rfl⟩) | (go_at_call 32; refine (negative_any _ _ (by assumption) (by assumption)).mono ?_; rintro e w' ⟨rfl, rfl⟩))
  all_goals go_ret
  all_goals refine ⟨ret_bool ?_, ((Below.refl _ _).alloc (Nat.le_refl _) _).alloc (by simp) _⟩
  all_goals (have hl := HL.out; have hr := HR.out; clear HL HR; unfold saysB tailB; rw [hl, hr]; clear hl hr)
  all_goals simp_all

set_option maxHeartbeats 1000000 in
theorem says_real6 (d n : Int) (s : ByteArray) (m : Int) (t : ByteArray) (w : World) (n1 : -9223372036854775808 ≤ n) (n2 : n ≤ 9223372036854775807) (m1 : -9223372036854775808 ≤ m) (m2 : m ≤ 9223372036854775807) (hn : noneB n = false) (hm : noneB m = false) (z1 : (magI n == 0 && magI m == 0) = false) (s1 : ¬ n < 0) (s2 : m < 0) :
    Calls Tryd.prog 13 #[.int .i64 d, .int .i64 1, .agg #[.int .i64 n, .string s], .agg #[.int .i64 m, .string t]] w fun e w' => e = .returned (.bool (saysB d 1 n s m t)) ∧ Below w.heap.size w w' := by
  have z2 : ¬ (magI n = 0 ∧ magI m = 0) := by simpa using z1
  have HL : Hid (realLess n m = false) := by
    unfold realLess Hid
    rw [if_neg z2, if_neg (by omega)]
    first | rw [if_neg (by omega)] | (rw [if_pos (by omega)]; simp; omega)
  have HR : Hid (realLess m n = true) := by
    unfold realLess Hid
    rw [if_neg (fun h => z2 ⟨h.2, h.1⟩), if_neg (by omega)]
    first | rw [if_neg (by omega)] | (rw [if_pos (by omega)]; simp; omega)
  clear z2
  go_enter Tryd.func13, Tryd.ntmps13
  go_wp2_with (first | (go_at_call 31; refine (none_any _ _ (by assumption) (by assumption)).mono ?_; rintro e w' ⟨rfl, rfl⟩) | (go_at_call 32; refine (negative_any _ _ (by assumption) (by assumption)).mono ?_; rintro e w' ⟨rfl, rfl⟩))
  all_goals go_ret
  all_goals refine ⟨ret_bool ?_, ((Below.refl _ _).alloc (Nat.le_refl _) _).alloc (by simp) _⟩
  all_goals (have hl := HL.out; have hr := HR.out; clear HL HR; unfold saysB tailB; rw [hl, hr]; clear hl hr)
  all_goals simp_all

set_option maxHeartbeats 1000000 in
theorem says_real7 (d n : Int) (s : ByteArray) (m : Int) (t : ByteArray) (w : World) (n1 : -9223372036854775808 ≤ n) (n2 : n ≤ 9223372036854775807) (m1 : -9223372036854775808 ≤ m) (m2 : m ≤ 9223372036854775807) (hn : noneB n = false) (hm : noneB m = false) (z1 : (magI n == 0 && magI m == 0) = false) (s1 : ¬ n < 0) (s2 : ¬ m < 0) :
    Calls Tryd.prog 13 #[.int .i64 d, .int .i64 1, .agg #[.int .i64 n, .string s], .agg #[.int .i64 m, .string t]] w fun e w' => e = .returned (.bool (saysB d 1 n s m t)) ∧ Below w.heap.size w w' := by
  have z2 : ¬ (magI n = 0 ∧ magI m = 0) := by simpa using z1
  have HL : Hid (realLess n m = decide (n < m)) := by
    unfold realLess Hid
    rw [if_neg z2, if_neg (by omega)]
    first | rw [if_neg (by omega)] | (rw [if_pos (by omega)]; simp; omega)
  have HR : Hid (realLess m n = decide (m < n)) := by
    unfold realLess Hid
    rw [if_neg (fun h => z2 ⟨h.2, h.1⟩), if_neg (by omega)]
    first | rw [if_neg (by omega)] | (rw [if_pos (by omega)]; simp; omega)
  clear z2
  go_enter Tryd.func13, Tryd.ntmps13
  go_wp2_with (first | (go_at_call 31; refine (none_any _ _ (by assumption) (by assumption)).mono ?_; rintro e w' ⟨rfl, rfl⟩) | (go_at_call 32; refine (negative_any _ _ (by assumption) (by assumption)).mono ?_; rintro e w' ⟨rfl, rfl⟩))
  all_goals go_ret
  all_goals refine ⟨ret_bool ?_, ((Below.refl _ _).alloc (Nat.le_refl _) _).alloc (by simp) _⟩
  all_goals (have hl := HL.out; have hr := HR.out; clear HL HR; unfold saysB tailB; rw [hl, hr]; clear hl hr)
  all_goals simp_all

theorem says_any (d c n : Int) (s : ByteArray) (m : Int) (t : ByteArray) (w : World) (n1 : -9223372036854775808 ≤ n) (n2 : n ≤ 9223372036854775807) (m1 : -9223372036854775808 ≤ m) (m2 : m ≤ 9223372036854775807) :
    Calls Tryd.prog 13 #[.int .i64 d, .int .i64 c, .agg #[.int .i64 n, .string s], .agg #[.int .i64 m, .string t]] w fun e w' => e = .returned (.bool (saysB d c n s m t)) ∧ Below w.heap.size w w' := by
  by_cases h2 : c = 2
  · subst h2; exact says_text d n s m t w
  by_cases h1 : c = 1
  · subst h1
    cases hn : noneB n
    · cases hm : noneB m
      · cases z : (magI n == 0 && magI m == 0)
        · by_cases s1 : n < 0
          · by_cases s2 : m < 0
            · exact says_real4 d n s m t w n1 n2 m1 m2 hn hm z s1 s2
            · exact says_real5 d n s m t w n1 n2 m1 m2 hn hm z s1 s2
          · by_cases s2 : m < 0
            · exact says_real6 d n s m t w n1 n2 m1 m2 hn hm z s1 s2
            · exact says_real7 d n s m t w n1 n2 m1 m2 hn hm z s1 s2
        · rw [Bool.and_eq_true] at z
          exact says_real3 d n s m t w n1 n2 m1 m2 hn hm z.1 z.2
      · exact says_real2 d n s m t w n1 n2 m1 m2 hn hm
    · exact says_real1 d n s m t w n1 n2 m1 m2 hn
  · exact says_plain d c n s m t w (by simpa using h2) (by simpa using h1)

end Go.Proofs.YtcconhgbefhdeaaDoor

namespace Go.Proofs.YtcconhgbefhdeaaDoor

/-- What stands at a rung: mantissa and place. -/
def rMag (r : Nat) : Nat := if r < 2 ^ 52 then r else 2 ^ 52 + r % 2 ^ 52
def rSh (r : Nat) : Nat := if r < 2 ^ 52 then 0 else r / 2 ^ 52 - 1

theorem read_num (neg : Bool) (x : Nat) (hx : x % 2 ^ 63 < 2047 * 2 ^ 52) (hneg : (x / 2 ^ 63 % 2 == 1) = neg) :
    Ieee.double.read x = .number neg (rMag (x % 2 ^ 63)) (-1074 + (rSh (x % 2 ^ 63) : Int)) := by
  have e1 : Ieee.double.signWeight = 2 ^ 63 := by decide
  have e2 : Ieee.double.binade = 2 ^ 52 := by decide
  have e3 : Ieee.double.infRung = 2047 * 2 ^ 52 := by decide
  have e4 : Ieee.double.leastPlace = -1074 := by decide
  unfold Ieee.Format.read
  simp only [e1, e2, e3, e4, hneg]
  unfold rMag rSh
  by_cases h : x % 2 ^ 63 < 2 ^ 52
  · simp [h]
  · simp [h, hx]

theorem read_inf (neg : Bool) (x : Nat) (hx : x % 2 ^ 63 = 2047 * 2 ^ 52) (hneg : (x / 2 ^ 63 % 2 == 1) = neg) :
    Ieee.double.read x = .infinity neg := by
  have e1 : Ieee.double.signWeight = 2 ^ 63 := by decide
  have e2 : Ieee.double.binade = 2 ^ 52 := by decide
  have e3 : Ieee.double.infRung = 2047 * 2 ^ 52 := by decide
  unfold Ieee.Format.read
  simp only [e1, e2, e3, hneg, hx]
  simp

theorem read_nan (x : Nat) (hx : 2047 * 2 ^ 52 < x % 2 ^ 63) : ∃ b f, Ieee.double.read x = .nan b f := by
  have e1 : Ieee.double.signWeight = 2 ^ 63 := by decide
  have e2 : Ieee.double.binade = 2 ^ 52 := by decide
  have e3 : Ieee.double.infRung = 2047 * 2 ^ 52 := by decide
  unfold Ieee.Format.read
  simp only [e1, e2, e3]
  rw [if_neg (by omega), if_neg (by omega), if_neg (by omega)]
  exact ⟨_, _, rfl⟩

theorem rSh_lt {r : Nat} (h : r < 2 ^ 53) : rSh r = 0 ∧ rMag r = r := by
  unfold rSh rMag
  by_cases h1 : r < 2 ^ 52
  · simp [h1]
  · rw [if_neg h1, if_neg h1]
    have : r / 2 ^ 52 = 1 := by omega
    omega

theorem rMag_le (r : Nat) : rMag r < 2 ^ 53 := by
  unfold rMag
  split <;> omega

theorem rMag_ge {r : Nat} (h : 2 ^ 52 ≤ r) : 2 ^ 52 ≤ rMag r := by
  unfold rMag
  split <;> omega

theorem mag_lt {r q : Nat} (h : r < q) : rSh r ≤ rSh q ∧ rMag r < rMag q * 2 ^ (rSh q - rSh r) := by
  by_cases hr : r < 2 ^ 52
  · have e1 := rSh_lt (r := r) (by omega)
    rw [e1.1, e1.2]
    refine ⟨Nat.zero_le _, ?_⟩
    by_cases hq : q < 2 ^ 53
    · have e2 := rSh_lt hq
      rw [e2.1, e2.2]; simpa using h
    · have := rMag_ge (r := q) (by omega)
      have p : 0 < 2 ^ (rSh q - 0) := Nat.two_pow_pos _
      calc r < 2 ^ 52 := hr
        _ ≤ rMag q := this
        _ ≤ rMag q * 2 ^ (rSh q - 0) := Nat.le_mul_of_pos_right _ p
  · have hq : ¬ q < 2 ^ 52 := by omega
    have m1 : rMag r = 2 ^ 52 + r % 2 ^ 52 := by unfold rMag; rw [if_neg hr]
    have m2 : rMag q = 2 ^ 52 + q % 2 ^ 52 := by unfold rMag; rw [if_neg hq]
    have s1 : rSh r = r / 2 ^ 52 - 1 := by unfold rSh; rw [if_neg hr]
    have s2 : rSh q = q / 2 ^ 52 - 1 := by unfold rSh; rw [if_neg hq]
    have le : r / 2 ^ 52 ≤ q / 2 ^ 52 := Nat.div_le_div_right (by omega)
    refine ⟨by omega, ?_⟩
    by_cases he : r / 2 ^ 52 = q / 2 ^ 52
    · have : rSh q - rSh r = 0 := by omega
      rw [this, m1, m2]; omega
    · obtain ⟨k, hk⟩ : ∃ k, rSh q - rSh r = k + 1 := ⟨rSh q - rSh r - 1, by omega⟩
      rw [hk, Nat.pow_succ]
      have p : 0 < 2 ^ k := Nat.two_pow_pos _
      have b1 := rMag_le r
      have b2 := rMag_ge (r := q) (by omega)
      have : rMag q * 2 ≤ rMag q * (2 ^ k * 2) := Nat.mul_le_mul_left _ (by omega)
      omega

/-- The two magnitudes at a common place. -/
def rA (r q : Nat) : Nat := rMag r <<< ((-1074 + (rSh r : Int)) - min (-1074 + (rSh r : Int)) (-1074 + (rSh q : Int))).toNat

theorem rA_lt {r q : Nat} (h : r < q) : rA r q < rA q r := by
  obtain ⟨h1, h2⟩ := mag_lt h
  unfold rA
  have e1 : ((-1074 + (rSh r : Int)) - min (-1074 + (rSh r : Int)) (-1074 + (rSh q : Int))).toNat = 0 := by omega
  have e2 : ((-1074 + (rSh q : Int)) - min (-1074 + (rSh q : Int)) (-1074 + (rSh r : Int))).toNat = rSh q - rSh r := by omega
  rw [e1, e2, Nat.shiftLeft_eq, Nat.shiftLeft_eq]
  simpa using h2

theorem rA_zero (q : Nat) : rA 0 q = 0 := by
  unfold rA
  have : rMag 0 = 0 := by decide
  rw [this]; simp

theorem rA_pos {r q : Nat} (h : 0 < r) : 0 < rA r q := by
  unfold rA
  rw [Nat.shiftLeft_eq]
  have : 0 < rMag r := by unfold rMag; split <;> omega
  exact Nat.mul_pos this (Nat.two_pow_pos _)

/-- A word's rung with its sign. -/
def keyW (x : Nat) : Int := if x / 2 ^ 63 % 2 = 1 then -((x % 2 ^ 63 : Nat) : Int) else ((x % 2 ^ 63 : Nat) : Int)

theorem cmp_int (a b c d : Int) (h1 : a < b → c < d) (h2 : a = b → c = d) (h3 : b < a → d < c) : compare c d = compare a b := by
  rcases Int.lt_trichotomy a b with h | h | h
  · have := h1 h
    simp [compare, compareOfLessAndEq, h, this]
  · have := h2 h
    simp [compare, compareOfLessAndEq, h, this]
  · have := h3 h
    have n1 : ¬ a < b := by omega
    have n2 : ¬ c < d := by omega
    have n3 : a ≠ b := by omega
    have n4 : c ≠ d := by omega
    simp [compare, compareOfLessAndEq, n1, n2, n3, n4]

theorem cmp_lt {a b : Int} (h : a < b) : compare a b = .lt := by simp [compare, compareOfLessAndEq, h]
theorem cmp_gt {a b : Int} (h : b < a) : compare a b = .gt := by
  have n1 : ¬ a < b := by omega
  have n2 : a ≠ b := by omega
  simp [compare, compareOfLessAndEq, n1, n2]

theorem order_num (x y : Nat) (hx : x % 2 ^ 63 < 2047 * 2 ^ 52) (hy : y % 2 ^ 63 < 2047 * 2 ^ 52) :
    Ieee.double.order x y = some (compare (keyW x) (keyW y)) := by
  unfold Ieee.Format.order
  rw [read_num _ x hx rfl, read_num _ y hy rfl]
  unfold Ieee.Datum.order
  simp only [Ieee.signed]
  have eA : rMag (x % 2 ^ 63) <<< ((-1074 + (rSh (x % 2 ^ 63) : Int)) - min (-1074 + (rSh (x % 2 ^ 63) : Int)) (-1074 + (rSh (y % 2 ^ 63) : Int))).toNat = rA (x % 2 ^ 63) (y % 2 ^ 63) := rfl
  have eB : rMag (y % 2 ^ 63) <<< ((-1074 + (rSh (y % 2 ^ 63) : Int)) - min (-1074 + (rSh (x % 2 ^ 63) : Int)) (-1074 + (rSh (y % 2 ^ 63) : Int))).toNat = rA (y % 2 ^ 63) (x % 2 ^ 63) := by
    unfold rA; rw [Int.min_comm]
  rw [eA, eB]
  unfold keyW
  generalize x % 2 ^ 63 = r
  generalize y % 2 ^ 63 = q
  have l1 : r < q → rA r q < rA q r := rA_lt
  have l2 : q < r → rA q r < rA r q := rA_lt
  have l3 : r = q → rA r q = rA q r := fun h => by rw [h]
  have p1 : 0 < r → 0 < rA r q := rA_pos
  have p2 : 0 < q → 0 < rA q r := rA_pos
  have z1 : r = 0 → rA r q = 0 := fun h => by rw [h]; exact rA_zero q
  have z2 : q = 0 → rA q r = 0 := fun h => by rw [h]; exact rA_zero r
  generalize rA r q = A at *
  generalize rA q r = B at *
  by_cases s1 : x / 2 ^ 63 % 2 = 1 <;> by_cases s2 : y / 2 ^ 63 % 2 = 1 <;> simp only [s1, s2, beq_self_eq_true, if_true, if_false, beq_iff_eq] <;>
    exact congrArg some (cmp_int _ _ _ _ (by omega) (by omega) (by omega))

theorem order_key (x y : Nat) (hx : x % 2 ^ 63 ≤ 2047 * 2 ^ 52) (hy : y % 2 ^ 63 ≤ 2047 * 2 ^ 52) :
    Ieee.double.order x y = some (compare (keyW x) (keyW y)) := by
  by_cases h1 : x % 2 ^ 63 = 2047 * 2 ^ 52
  · by_cases h2 : y % 2 ^ 63 = 2047 * 2 ^ 52
    · unfold Ieee.Format.order keyW
      rw [read_inf _ x h1 rfl, read_inf _ y h2 rfl, h1, h2]
      unfold Ieee.Datum.order
      by_cases s1 : x / 2 ^ 63 % 2 = 1 <;> by_cases s2 : y / 2 ^ 63 % 2 = 1
      · rw [beq_iff_eq.2 s1, beq_iff_eq.2 s2, if_pos s1, if_pos s2]; decide
      · rw [beq_iff_eq.2 s1, beq_eq_false_iff_ne.2 s2, if_pos s1, if_neg s2]; decide
      · rw [beq_eq_false_iff_ne.2 s1, beq_iff_eq.2 s2, if_neg s1, if_pos s2]; decide
      · rw [beq_eq_false_iff_ne.2 s1, beq_eq_false_iff_ne.2 s2, if_neg s1, if_neg s2]; decide
    · unfold Ieee.Format.order keyW
      rw [read_inf _ x h1 rfl, read_num _ y (by omega) rfl, h1]
      unfold Ieee.Datum.order
      by_cases s1 : x / 2 ^ 63 % 2 = 1
      · simp only [s1, beq_self_eq_true, if_true]
        exact congrArg some (cmp_lt (by split <;> omega)).symm
      · simp only [s1, beq_iff_eq, if_false]
        exact congrArg some (cmp_gt (by split <;> omega)).symm
  · by_cases h2 : y % 2 ^ 63 = 2047 * 2 ^ 52
    · unfold Ieee.Format.order keyW
      rw [read_inf _ y h2 rfl, read_num _ x (by omega) rfl, h2]
      unfold Ieee.Datum.order
      by_cases s1 : y / 2 ^ 63 % 2 = 1
      · simp only [s1, beq_self_eq_true, if_true]
        exact congrArg some (cmp_gt (by split <;> omega)).symm
      · simp only [s1, beq_iff_eq, if_false]
        exact congrArg some (cmp_lt (by split <;> omega)).symm
    · exact order_num x y (by omega) (by omega)

theorem order_nan (x y : Nat) (h : 2047 * 2 ^ 52 < x % 2 ^ 63 ∨ 2047 * 2 ^ 52 < y % 2 ^ 63) : Ieee.double.order x y = none := by
  unfold Ieee.Format.order
  rcases h with h | h
  · obtain ⟨b, f, e⟩ := read_nan x h
    rw [e]; unfold Ieee.Datum.order; rfl
  · obtain ⟨b, f, e⟩ := read_nan y h
    rw [e]; unfold Ieee.Datum.order
    cases Ieee.double.read x <;> rfl

end Go.Proofs.YtcconhgbefhdeaaDoor

namespace Go.Proofs.YtcconhgbefhdeaaDoor
open Go.RowKit

theorem bits_mod (n : Int) (h1 : -9223372036854775808 ≤ n) (h2 : n ≤ 9223372036854775807) : ((bitsN n % 2 ^ 63 : Nat) : Int) = magI n ∧ (bitsN n / 2 ^ 63 % 2 = 1 ↔ n < 0) := by
  unfold bitsN magI
  rw [IntKind.wrap_u64]
  by_cases h : n < 0
  · have e : n % 18446744073709551616 = n + 18446744073709551616 := by omega
    rw [e, if_pos h]
    omega
  · have e : n % 18446744073709551616 = n := by omega
    rw [e, if_neg h]
    omega

def keyI (n : Int) : Int := if n < 0 then -(magI n) else magI n

theorem key_bits (n : Int) (h1 : -9223372036854775808 ≤ n) (h2 : n ≤ 9223372036854775807) : keyW (bitsN n) = keyI n := by
  obtain ⟨a, b⟩ := bits_mod n h1 h2
  unfold keyW keyI
  by_cases h : n < 0
  · rw [if_pos (b.2 h), if_pos h, a]
  · rw [if_neg (fun x => h (b.1 x)), if_neg h, a]

theorem realLess_key (n m : Int) (n1 : -9223372036854775808 ≤ n) (m1 : -9223372036854775808 ≤ m) : realLess n m = decide (keyI n < keyI m) := by
  unfold realLess keyI magI
  rw [Bool.eq_iff_iff]
  by_cases a : n < 0 <;> by_cases b : m < 0 <;> simp only [a, b, if_true, if_false] <;> split <;> simp <;> omega

theorem beq_some_lt (a b : Int) : ((some (compare a b) : Option Ordering) == some .lt) = decide (a < b) := by
  rcases Int.lt_trichotomy a b with h | h | h
  · rw [cmp_lt h]; simp [h]
  · subst h; simp [compare, compareOfLessAndEq]
  · rw [cmp_gt h]; simp; omega
theorem beq_some_gt (a b : Int) : ((some (compare a b) : Option Ordering) == some .gt) = decide (b < a) := by
  rcases Int.lt_trichotomy a b with h | h | h
  · rw [cmp_lt h]; simp; omega
  · subst h; simp [compare, compareOfLessAndEq]
  · rw [cmp_gt h]; simp [h]
theorem beq_some_eq (a b : Int) : ((some (compare a b) : Option Ordering) == some .eq) = decide (a = b) := by
  rcases Int.lt_trichotomy a b with h | h | h
  · rw [cmp_lt h]; simp; omega
  · subst h; simp [compare, compareOfLessAndEq]
  · rw [cmp_gt h]; simp; omega

theorem cmp_tail (d a b : Int) (d1 : 1 ≤ d) (d6 : d ≤ 6) : cmpB d (decide (a = b)) (decide (a < b)) (decide (b < a)) = tailB d (decide (a < b)) (decide (b < a)) := by
  have : d = 1 ∨ d = 2 ∨ d = 3 ∨ d = 4 ∨ d = 5 ∨ d = 6 := by omega
  rw [Bool.eq_iff_iff]
  rcases this with rfl | rfl | rfl | rfl | rfl | rfl <;> simp [cmpB, tailB] <;> omega

theorem cmp_tail_text (d : Int) (s t : ByteArray) (d1 : 1 ≤ d) (d6 : d ≤ 6) : cmpB d (eqS s t) (ltS s t) (!ltS s t && !eqS s t) = tailB d (ltS s t) (!ltS s t && !eqS s t) := by
  have hx := ltS_eqS s t
  have : d = 1 ∨ d = 2 ∨ d = 3 ∨ d = 4 ∨ d = 5 ∨ d = 6 := by omega
  rcases this with rfl | rfl | rfl | rfl | rfl | rfl <;> simp only [cmpB, tailB] <;> cases h1 : eqS s t <;> cases h2 : ltS s t <;> simp_all

/-- The program's comparison is the statement's. -/
theorem agree (d c n : Int) (s : ByteArray) (m : Int) (t : ByteArray) (n1 : -9223372036854775808 ≤ n) (n2 : n ≤ 9223372036854775807) (m1 : -9223372036854775808 ≤ m) (m2 : m ≤ 9223372036854775807)
    (d1 : 1 ≤ d) (d6 : d ≤ 6) : holdsB (c + 1) d n s m t = saysB d c n s m t := by
  unfold holdsB saysB
  by_cases hc1 : c = 1
  · subst hc1
    rw [if_pos (by omega), if_neg (by omega), if_pos rfl]
    obtain ⟨a1, _⟩ := bits_mod n n1 n2
    obtain ⟨a2, _⟩ := bits_mod m m1 m2
    by_cases hn : noneB n = true ∨ noneB m = true
    · have : (noneB n || noneB m) = true := by rcases hn with h | h <;> simp [h]
      rw [if_pos this]
      have hnn : 2047 * 2 ^ 52 < bitsN n % 2 ^ 63 ∨ 2047 * 2 ^ 52 < bitsN m % 2 ^ 63 := by
        unfold noneB at hn
        simp only [decide_eq_true_eq] at hn
        omega
      rw [order_nan _ _ hnn]
      have : d = 1 ∨ d = 2 ∨ d = 3 ∨ d = 4 ∨ d = 5 ∨ d = 6 := by omega
      rcases this with rfl | rfl | rfl | rfl | rfl | rfl <;> rfl
    · have h1 : noneB n = false := by simpa using fun h => hn (Or.inl h)
      have h2 : noneB m = false := by simpa using fun h => hn (Or.inr h)
      rw [h1, h2, if_neg (by simp)]
      unfold noneB at h1 h2
      simp only [decide_eq_false_iff_not] at h1 h2
      rw [order_key _ _ (by omega) (by omega), key_bits n n1 n2, key_bits m m1 m2, beq_some_eq, beq_some_lt, beq_some_gt, realLess_key n m n1 m1, realLess_key m n m1 n1]
      exact cmp_tail d _ _ d1 d6
  · rw [if_neg (by omega)]
    by_cases hc2 : c = 2
    · rw [if_pos (by omega), if_pos hc2]
      exact cmp_tail_text d s t d1 d6
    · rw [if_neg (by omega), if_neg hc2, if_neg hc1]
      have : (n == m) = decide (n = m) := by rw [Bool.eq_iff_iff]; simp
      rw [this]
      exact cmp_tail d n m d1 d6

end Go.Proofs.YtcconhgbefhdeaaDoor
