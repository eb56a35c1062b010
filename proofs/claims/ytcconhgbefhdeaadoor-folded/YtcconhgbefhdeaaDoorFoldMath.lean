import Derived.Test.YtcconhgbefhdeaaDoorTFold
import Derived.Test.YtcconhgbefhdeaaDoorPart
import Derived.Test.YtcconhgbefhdeaaDoorCmp
namespace Go.Proofs.YtcconhgbefhdeaaDoor
open Go.RowKit

theorem bytes_trans : ∀ (a b c : List UInt8), Op.bytesLess a b = true → Op.bytesLess b c = true → Op.bytesLess a c = true
  | _, [], _, h, _ => by cases ‹List UInt8› <;> simp [Op.bytesLess] at h
  | _, _ :: _, [], _, h => by simp [Op.bytesLess] at h
  | [], _ :: _, _ :: _, _, _ => by simp [Op.bytesLess]
  | x :: a, y :: b, z :: c, h, h' => by
    simp only [Op.bytesLess, Bool.or_eq_true, Bool.and_eq_true, decide_eq_true_eq, beq_iff_eq] at h h' ⊢
    rcases h with h | ⟨rfl, h⟩
    · rcases h' with h' | ⟨rfl, h'⟩
      · left; rw [UInt8.lt_iff_toNat_lt] at *; omega
      · left; exact h
    · rcases h' with h' | ⟨rfl, h'⟩
      · left; exact h'
      · right; exact ⟨rfl, bytes_trans a b c h h'⟩

theorem bytes_total : ∀ (a b : List UInt8), Op.bytesLess a b = false → Op.bytesLess b a = false → a = b
  | [], [], _, _ => rfl
  | [], _ :: _, h, _ => by simp [Op.bytesLess] at h
  | _ :: _, [], _, h => by simp [Op.bytesLess] at h
  | x :: a, y :: b, h, h' => by
    simp only [Op.bytesLess, Bool.or_eq_false_iff, Bool.and_eq_false_iff, decide_eq_false_iff_not, beq_eq_false_iff_ne, ne_eq] at h h'
    have e : x = y := by
      have h1 := h.1
      have h2 := h'.1
      rw [UInt8.lt_iff_toNat_lt] at h1 h2
      exact UInt8.toNat_inj.1 (by omega)
    subst e
    have h1 : Op.bytesLess a b = false := by rcases h.2 with h | h; exact absurd rfl h; exact h
    have h2 : Op.bytesLess b a = false := by rcases h'.2 with h | h; exact absurd rfl h; exact h
    rw [bytes_total a b h1 h2]

theorem ltS_irrefl (a : ByteArray) : ltS a a = false := bytesLess_irrefl _
theorem ltS_trans {a b c : ByteArray} (h : ltS a b = true) (h' : ltS b c = true) : ltS a c = true := bytes_trans _ _ _ h h'
theorem ltS_total {a b : ByteArray} (h : ltS a b = false) (h' : ltS b a = false) : a = b := by
  have e := bytes_total _ _ h h'
  rw [ByteArray.toList_eq, ByteArray.toList_eq] at e
  exact ByteArray.ext (Array.ext' e)
theorem ltS_asymm {a b : ByteArray} (h : ltS a b = true) : ltS b a = false := by
  cases h' : ltS b a with
  | false => rfl
  | true => have := ltS_trans h h'; rw [ltS_irrefl] at this; cases this
theorem ltS_neg {a b c : ByteArray} (h : ltS a b = false) (h' : ltS b c = false) : ltS a c = false := by
  cases hac : ltS a c with
  | false => rfl
  | true =>
    cases hba : ltS b a with
    | false => rw [ltS_total h hba] at hac; rw [hac] at h'; cases h'
    | true => have := ltS_trans hba hac; rw [this] at h'; cases h'
theorem gtS_iff (a b : ByteArray) : (!ltS a b && !eqS a b) = ltS b a := by
  cases hab : ltS a b with
  | true => rw [ltS_asymm hab]; rfl
  | false =>
    cases hba : ltS b a with
    | true =>
      have : eqS a b = false := by
        cases he : eqS a b with
        | false => rfl
        | true => unfold eqS at he; unfold ltS at hba; rw [eq_of_beq he, bytesLess_irrefl] at hba; cases hba
      simp [this]
    | false => have e := ltS_total hab hba; subst e; simp [eqS]

theorem foldV_two (a v : Int × ByteArray) : foldV 2 a v = (leastN a.1 v.1, leastS a.2 v.2) := by simp [foldV]
theorem foldV_three (a v : Int × ByteArray) : foldV 3 a v = (mostN a.1 v.1, mostS a.2 v.2) := by simp [foldV]

/-- What a fold by choice leaves: one of the values, and none is ahead of it. -/
theorem fold_choice {α : Type} (f : α → α → α) (D : α → Prop) (lt : α → α → Prop) (hf : ∀ a v, D a → D v → f a v = a ∨ f a v = v) (h1 : ∀ a v, D a → D v → ¬ lt a (f a v) ∧ ¬ lt v (f a v))
    (htr : ∀ x y z, ¬ lt x y → ¬ lt y z → ¬ lt x z) (hrf : ∀ x, ¬ lt x x) (V : List α) (a : α) (ha : D a) (hV : ∀ v ∈ V, D v) : D (V.foldl f a) ∧ (V.foldl f a = a ∨ V.foldl f a ∈ V) ∧ ¬ lt a (V.foldl f a) ∧ ∀ v ∈ V, ¬ lt v (V.foldl f a) := by
  induction V generalizing a with
  | nil => exact ⟨ha, .inl rfl, hrf a, fun v hv => by cases hv⟩
  | cons v V ih =>
    have hv := hV v List.mem_cons_self
    have hD : D (f a v) := by rcases hf a v ha hv with h | h <;> rw [h] <;> assumption
    obtain ⟨i1, i2, i3, i4⟩ := ih (f a v) hD (fun u hu => hV u (List.mem_cons_of_mem _ hu))
    obtain ⟨j1, j2⟩ := h1 a v ha hv
    refine ⟨i1, ?_, htr _ _ _ j1 i3, fun u hu => ?_⟩
    · rcases i2 with h | h
      · rcases hf a v ha hv with e | e
        · left; exact h.trans e
        · right; show V.foldl f (f a v) ∈ v :: V; rw [h, e]; exact List.mem_cons_self
      · right; exact List.mem_cons_of_mem _ h
    · rcases List.mem_cons.1 hu with rfl | hu
      · exact htr _ _ _ j2 i3
      · exact i4 u hu

/-- The least and the most, of a column of whole numbers, texts or flags. -/
structure Ends (c : Nat) (V : List (Int × ByteArray)) (m M : Int × ByteArray) : Prop where
  one : V ≠ [] → m ∈ V ∧ M ∈ V
  low : ∀ v ∈ V, saysB 3 c v.1 v.2 m.1 m.2 = false
  high : ∀ v ∈ V, saysB 5 c v.1 v.2 M.1 M.2 = false
  nil : V = [] → m = (0, ⟨#[]⟩) ∧ M = (0, ⟨#[]⟩)

theorem ends_num (c : Nat) (hc : c = 0 ∨ c = 3) (V : List (Int × ByteArray)) (hV : ∀ v ∈ V, v.2 = .empty) : Ends c V (foldAll 2 V) (foldAll 3 V) := by
  have e0 : leastS .empty .empty = .empty := by unfold leastS; simp
  have e1 : mostS .empty .empty = .empty := by unfold mostS; simp
  cases V with
  | nil => exact ⟨fun h => absurd rfl h, fun v hv => (by cases hv), fun v hv => (by cases hv), fun _ => ⟨rfl, rfl⟩⟩
  | cons a V =>
    have ha := hV a List.mem_cons_self
    have hV' : ∀ v ∈ V, v.2 = ByteArray.empty := fun v hv => hV v (List.mem_cons_of_mem _ hv)
    have L := fold_choice (foldV 2) (fun v => v.2 = ByteArray.empty) (fun x y => x.1 < y.1)
      (fun a v ha hv => by
        obtain ⟨an, asx⟩ := a
        obtain ⟨vn, vs⟩ := v
        simp only at ha hv
        subst ha hv
        simp only [foldV_two, leastN, e0]
        rcases Int.le_total an vn with h | h
        · left; simp [Int.min_eq_left h]
        · right; simp [Int.min_eq_right h])
      (fun a v ha hv => by simp only [foldV_two, leastN]; omega) (fun x y z h h' => by omega) (fun x => by omega) V a ha hV'
    have M := fold_choice (foldV 3) (fun v => v.2 = ByteArray.empty) (fun x y => y.1 < x.1)
      (fun a v ha hv => by
        obtain ⟨an, asx⟩ := a
        obtain ⟨vn, vs⟩ := v
        simp only at ha hv
        subst ha hv
        simp only [foldV_three, mostN, e1]
        rcases Int.le_total an vn with h | h
        · right; simp [Int.max_eq_right h]
        · left; simp [Int.max_eq_left h])
      (fun a v ha hv => by simp only [foldV_three, mostN]; omega) (fun x y z h h' => by omega) (fun x => by omega) V a ha hV'
    have hc2 : ¬ (c : Int) = 2 := by omega
    have hc1 : ¬ (c : Int) = 1 := by omega
    refine ⟨fun _ => ⟨?_, ?_⟩, fun v hv => ?_, fun v hv => ?_, fun h => by cases h⟩
    · rcases L.2.1 with h | h
      · show V.foldl (foldV 2) a ∈ a :: V; rw [h]; exact List.mem_cons_self
      · exact List.mem_cons_of_mem _ h
    · rcases M.2.1 with h | h
      · show V.foldl (foldV 3) a ∈ a :: V; rw [h]; exact List.mem_cons_self
      · exact List.mem_cons_of_mem _ h
    · have h : ¬ v.1 < (foldAll 2 (a :: V)).1 := by
        rcases List.mem_cons.1 hv with rfl | hv
        · exact L.2.2.1
        · exact L.2.2.2 v hv
      simp only [saysB, tailB]
      rw [if_neg hc2, if_neg hc1]
      simpa using h
    · have h : ¬ (foldAll 3 (a :: V)).1 < v.1 := by
        rcases List.mem_cons.1 hv with rfl | hv
        · exact M.2.2.1
        · exact M.2.2.2 v hv
      simp only [saysB, tailB]
      rw [if_neg hc2, if_neg hc1]
      simpa using h

theorem ends_text (V : List (Int × ByteArray)) (hV : ∀ v ∈ V, v.1 = 0) : Ends 2 V (foldAll 2 V) (foldAll 3 V) := by
  cases V with
  | nil => exact ⟨fun h => absurd rfl h, fun v hv => (by cases hv), fun v hv => (by cases hv), fun _ => ⟨rfl, rfl⟩⟩
  | cons a V =>
    have ha := hV a List.mem_cons_self
    have hV' : ∀ v ∈ V, v.1 = (0 : Int) := fun v hv => hV v (List.mem_cons_of_mem _ hv)
    have L := fold_choice (foldV 2) (fun v => v.1 = (0 : Int)) (fun x y => ltS x.2 y.2 = true)
      (fun a v ha hv => by
        obtain ⟨an, asx⟩ := a
        obtain ⟨vn, vs⟩ := v
        simp only at ha hv
        subst ha hv
        simp only [foldV_two, leastN, leastS]
        split
        · left; simp
        · right; simp)
      (fun a v ha hv => by
        simp only [foldV_two, leastS, Bool.not_eq_true]
        split
        · rename_i h
          rcases (Bool.or_eq_true _ _).mp h with h | h
          · exact ⟨ltS_irrefl _, ltS_asymm h⟩
          · refine ⟨ltS_irrefl _, ?_⟩
            unfold eqS at h
            unfold ltS
            rw [eq_of_beq h]; exact bytesLess_irrefl _
        · rename_i h
          have h' := (Bool.or_eq_false_iff).1 (by simpa using h)
          exact ⟨h'.1, ltS_irrefl _⟩)
      (fun x y z h h' => by simp only [Bool.not_eq_true] at *; exact ltS_neg h h') (fun x => by simp only [Bool.not_eq_true]; exact ltS_irrefl _) V a ha hV'
    have M := fold_choice (foldV 3) (fun v => v.1 = (0 : Int)) (fun x y => ltS y.2 x.2 = true)
      (fun a v ha hv => by
        obtain ⟨an, asx⟩ := a
        obtain ⟨vn, vs⟩ := v
        simp only at ha hv
        subst ha hv
        simp only [foldV_three, mostN, mostS]
        split
        · left; simp
        · right; simp)
      (fun a v ha hv => by
        simp only [foldV_three, mostS, Bool.not_eq_true]
        split
        · rename_i h
          have h' : ltS a.2 v.2 = false := by simpa using h
          exact ⟨ltS_irrefl _, h'⟩
        · rename_i h
          have h' : ltS a.2 v.2 = true := by simpa using h
          exact ⟨ltS_asymm h', ltS_irrefl _⟩)
      (fun x y z h h' => by simp only [Bool.not_eq_true] at *; exact ltS_neg h' h) (fun x => by simp only [Bool.not_eq_true]; exact ltS_irrefl _) V a ha hV'
    refine ⟨fun _ => ⟨?_, ?_⟩, fun v hv => ?_, fun v hv => ?_, fun h => by cases h⟩
    · rcases L.2.1 with h | h
      · show V.foldl (foldV 2) a ∈ a :: V; rw [h]; exact List.mem_cons_self
      · exact List.mem_cons_of_mem _ h
    · rcases M.2.1 with h | h
      · show V.foldl (foldV 3) a ∈ a :: V; rw [h]; exact List.mem_cons_self
      · exact List.mem_cons_of_mem _ h
    · have h : ¬ ltS v.2 (foldAll 2 (a :: V)).2 = true := by
        rcases List.mem_cons.1 hv with rfl | hv
        · exact L.2.2.1
        · exact L.2.2.2 v hv
      simp only [saysB, tailB]
      simpa using h
    · have h : ¬ ltS (foldAll 3 (a :: V)).2 v.2 = true := by
        rcases List.mem_cons.1 hv with rfl | hv
        · exact M.2.2.1
        · exact M.2.2.2 v hv
      simp only [saysB, tailB, gtS_iff]
      simpa using h

/-- A sum by rounds. -/
def sumW (V : List (Int × ByteArray)) : Int := V.foldl (fun s v => wrap64 (s + v.1)) 0

theorem sumW_snoc (V : List (Int × ByteArray)) (v : Int × ByteArray) : sumW (V ++ [v]) = wrap64 (sumW V + v.1) := by simp [sumW]

theorem sum_all (V : List (Int × ByteArray)) (hV : ∀ v ∈ V, v.2 = .empty) (h64 : ∀ v ∈ V, in64 v.1) : foldAll 1 V = (sumW V, .empty) := by
  cases V with
  | nil => rfl
  | cons a V =>
    have ha := hV a List.mem_cons_self
    have e : wrap64 (0 + a.1) = a.1 := by
      have := h64 a List.mem_cons_self
      unfold in64 at this
      rw [Int.zero_add]
      unfold wrap64
      omega
    have key : ∀ (W : List (Int × ByteArray)) (x : Int), W.foldl (foldV 1) (x, .empty) = (W.foldl (fun s v => wrap64 (s + v.1)) x, .empty) := by
      intro W
      induction W with
      | nil => intro x; rfl
      | cons v W ih => intro x; exact ih _
    show V.foldl (foldV 1) a = _
    obtain ⟨an, asx⟩ := a
    simp only at ha e
    subst ha
    rw [key]
    simp only [sumW, List.foldl_cons, e]

end Go.Proofs.YtcconhgbefhdeaaDoor
