import Derived.Test.YtcconhgbefhdeaaDoorRefLeaf
import Derived.Deep.QuietTactic
import Derived.BigQuiet
namespace Go.Proofs.YtcconhgbefhdeaaDoor
open Go.RowKit

theorem none_bits (n : Int) (h1 : -9223372036854775808 ≤ n) (h2 : n ≤ 9223372036854775807) : noneB n = (decide (IntKind.u64.wrap n / 4503599627370496 % 2048 = 2047) && decide (IntKind.u64.wrap n % 4503599627370496 ≠ 0)) := by
  unfold noneB magI
  rw [IntKind.wrap_u64, Bool.eq_iff_iff]
  simp only [decide_eq_true_eq, Bool.and_eq_true]
  by_cases h : n < 0
  · have e : n % 18446744073709551616 = n + 18446744073709551616 := by omega
    rw [e, if_pos h]
    omega
  · have e : n % 18446744073709551616 = n := by omega
    rw [e, if_neg h]
    omega

set_option maxRecDepth 100000 in
set_option maxHeartbeats 400000 in
theorem refNone_any (n : Int) (w : World) (h1 : -9223372036854775808 ≤ n) (h2 : n ≤ 9223372036854775807) :
    Calls Tryd.prog 89 #[.int .i64 n] w fun e w' => e = .returned (.bool (noneB n)) ∧ w' = w := by
  go_enter Tryd.func89, Tryd.ntmps89
  go_wp2
  all_goals go_ret
  all_goals refine ⟨ret_bool ?_, rfl⟩
  all_goals
    have hu : 0 ≤ IntKind.u64.wrap n := by rw [IntKind.wrap_u64]; omega
    rw [none_bits n h1 h2]
    rename_i hx
    rw [Int.tmod_eq_emod_of_nonneg (by omega)] at hx
    generalize IntKind.u64.wrap n = u at *
  · rw [Int.tmod_eq_emod_of_nonneg hu, decide_eq_true hx, Bool.true_and, Bool.eq_iff_iff]
    simp
  · rw [decide_eq_false hx]; rfl

set_option maxHeartbeats 400000 in
theorem refSize_any (n : Int) (w : World) (h1 : -9223372036854775808 ≤ n) (h2 : n ≤ 9223372036854775807) :
    Calls Tryd.prog 98 #[.int .i64 n] w fun e w' => e = .returned (.int .i64 (keyI n)) ∧ w' = w := by
  by_cases h : 0 ≤ n
  · go_enter Tryd.func98, Tryd.ntmps98
    go_wp2
    go_ret
    exact ⟨ret_int (by unfold keyI magI; rw [if_neg (by omega), if_neg (by omega)]), rfl⟩
  · go_enter Tryd.func98, Tryd.ntmps98
    go_wp2
    go_ret
    exact ⟨ret_int (by unfold keyI magI; rw [if_pos (by omega), if_pos (by omega)]; omega), rfl⟩

def cmpS (a b : ByteArray) : Int := if ltS a b then -1 else if eqS a b then 0 else 1

theorem drewN_below' (w : World) (n : Nat) : Below w.heap.size w (w.drewN n) := ⟨rfl, rfl, rfl, Nat.le_refl _, fun _ _ => rfl⟩

theorem less_prefix (p x y : List UInt8) : Op.bytesLess (p ++ x) (p ++ y) = Op.bytesLess x y := by
  induction p with
  | nil => rfl
  | cons c p ih => simp [Op.bytesLess, ih]

theorem split_at (a : ByteArray) (k : Nat) (h : k < a.size) : a.toList = a.data.toList.take k ++ (a[k] :: a.data.toList.drop (k + 1)) := by
  rw [ByteArray.toList_eq]
  have hl : k < a.data.toList.length := by simpa using h
  conv => lhs; rw [← List.take_append_drop k a.data.toList, List.drop_eq_getElem_cons hl]
  rfl

theorem cmpS_at (a b : ByteArray) (k : Nat) (ha : k < a.size) (hb : k < b.size) (hp : a.data.toList.take k = b.data.toList.take k) (hne : a[k] ≠ b[k]) : cmpS a b = if (a[k].toNat : Int) < (b[k].toNat : Int) then -1 else 1 := by
  have e1 := split_at a k ha
  have e2 := split_at b k hb
  rw [← hp] at e2
  have hlt : ltS a b = decide (a[k] < b[k]) := by
    unfold ltS
    rw [e1, e2, less_prefix]
    simp only [Op.bytesLess]
    have : (a[k] == b[k]) = false := by simpa using hne
    rw [this]; simp
  have heq : eqS a b = false := by
    unfold eqS
    rw [e1, e2]
    simp
    intro h; exact absurd h hne
  unfold cmpS
  rw [hlt, heq]
  by_cases h : a[k] < b[k]
  · have : (a[k].toNat : Int) < (b[k].toNat : Int) := by have := UInt8.lt_iff_toNat_lt.1 h; omega
    rw [if_pos this]; simp [h]
  · have : ¬ (a[k].toNat : Int) < (b[k].toNat : Int) := fun hx => h (UInt8.lt_iff_toNat_lt.2 (by omega))
    rw [if_neg this]; simp [h]

theorem cmpS_end (a b : ByteArray) (k : Nat) (hka : k ≤ a.size) (hkb : k ≤ b.size) (hk : k = a.size ∨ k = b.size) (hp : a.data.toList.take k = b.data.toList.take k) : cmpS a b = if (a.size : Int) < (b.size : Int) then -1 else if (b.size : Int) < (a.size : Int) then 1 else 0 := by
  have sa : a.data.toList.length = a.size := by simp
  have sb : b.data.toList.length = b.size := by simp
  have ta : a.toList = a.data.toList := ByteArray.toList_eq a
  have tb : b.toList = b.data.toList := ByteArray.toList_eq b
  by_cases h1 : a.size < b.size
  · rw [if_pos (by omega)]
    have hka' : k = a.size := by omega
    have ea : a.data.toList = b.data.toList.take k := by rw [← hp, List.take_of_length_le (by omega)]
    have eb : b.data.toList = b.data.toList.take k ++ b.data.toList.drop k := (List.take_append_drop _ _).symm
    have hd : b.data.toList.drop k = b.data.toList[k]'(by omega) :: b.data.toList.drop (k + 1) := List.drop_eq_getElem_cons (by omega)
    have hlt : ltS a b = true := by
      unfold ltS
      rw [ta, tb, ea, eb, hd]
      have := less_prefix (b.data.toList.take k) [] (b.data.toList[k]'(by omega) :: b.data.toList.drop (k + 1))
      simp only [List.append_nil] at this
      rw [List.take_left' (by simp; omega), this]
      rfl
    unfold cmpS; rw [hlt]; rfl
  · rw [if_neg (by omega)]
    by_cases h2 : b.size < a.size
    · rw [if_pos (by omega)]
      have ebk : b.data.toList = a.data.toList.take k := by rw [hp, List.take_of_length_le (by omega)]
      have hd : a.data.toList.drop k = a.data.toList[k]'(by omega) :: a.data.toList.drop (k + 1) := List.drop_eq_getElem_cons (by omega)
      have hlt : ltS a b = false := by
        unfold ltS
        rw [ta, tb, ebk]
        conv => lhs; rw [← List.take_append_drop k a.data.toList, hd]
        have := less_prefix (a.data.toList.take k) (a.data.toList[k]'(by omega) :: a.data.toList.drop (k + 1)) []
        simp only [List.append_nil] at this
        rw [List.take_left' (by simp; omega), this]
        rfl
      have heq : eqS a b = false := by
        unfold eqS
        rw [ta, tb]
        simp only [beq_eq_false_iff_ne, ne_eq]
        intro h
        have := congrArg List.length h
        omega
      unfold cmpS; rw [hlt, heq]; rfl
    · rw [if_neg (by omega)]
      have heq : eqS a b = true := by
        unfold eqS
        rw [ta, tb]
        rw [List.take_of_length_le (by omega), List.take_of_length_le (by omega)] at hp
        rw [hp]; simp
      unfold cmpS; rw [ltS_eqS a b heq, heq]; rfl

set_option maxHeartbeats 400000 in
theorem refBytes_any (a b : ByteArray) (w : World) (ha : a.size ≤ 9000000) :
    Calls Tryd.prog 97 #[.string a, .string b] w fun e w' => e = .returned (.int .i64 (cmpS a b)) ∧ ∃ q, w' = w.drewN q := by
  go_enter Tryd.func97, Tryd.ntmps97
  go_wp2_with fail
  go_loopw [5] (fun i wr => ∃ k : Nat, k ≤ a.size ∧ k ≤ b.size ∧ i = .int .i64 k ∧ a.data.toList.take k = b.data.toList.take k ∧ ∃ q, wr = w.drewN q) (fun i _ => a.size - (intOf i).toNat)
  case atStart => exact ⟨0, Nat.zero_le _, Nat.zero_le _, rfl, by simp, 0, rfl⟩
  case round =>
    obtain ⟨k, hka, hkb, rfl, htk, q, rfl⟩ := hrel
    have HTK : Hid (a.data.toList.take k = b.data.toList.take k) := htk
    clear htk
    by_cases hlt : k < a.size ∧ k < b.size
    · obtain ⟨hla, hlb⟩ := hlt
      have i0 : (0 : Int) ≤ (k : Int) := by omega
      have i1 : (k : Int) < (a.size : Int) := by omega
      have i2 : (k : Int) < (b.size : Int) := by omega
      by_cases he : a[k] = b[k]
      · have hn : ((a[k].toNat : Int) != (b[k].toNat : Int)) = false := by rw [he]; simp
        have HT2 : Hid (a.data.toList.take (k + 1) = b.data.toList.take (k + 1)) := by
          unfold Hid
          have e1 : a.data.toList[k]'(by simpa using hla) = a[k] := rfl
          have e2 : b.data.toList[k]'(by simpa using hlb) = b[k] := rfl
          rw [List.take_succ_eq_append_getElem (by simpa using hla), List.take_succ_eq_append_getElem (by simpa using hlb), HTK.out, e1, e2, he]
        have HE : Hid (a[k] = b[k]) := he
        clear he
        go_wp2_with fail
        go_quiet (fail)
        go_wp2
        go_roundw
        case rel => exact ⟨k + 1, by omega, by omega, by go_num, HT2.out, _, rfl⟩
        case measure => simp [intOf]; omega
      · have hn : ((a[k].toNat : Int) != (b[k].toNat : Int)) = true := by
          rw [bne_iff_ne]
          intro h
          exact he (UInt8.toNat_inj.1 (by omega))
        have HC : Hid (cmpS a b = if (a[k].toNat : Int) < (b[k].toNat : Int) then -1 else 1) := cmpS_at a b k hla hlb HTK.out he
        clear he
        by_cases hl : (a[k].toNat : Int) < (b[k].toNat : Int)
        · have HC2 : Hid (cmpS a b = -1) := by unfold Hid; rw [HC.out, if_pos hl]
          go_wp2_with fail
          go_quiet (fail)
          go_wp2_with fail
          go_quiet (fail)
          go_wp2
          go_ret
          exact ⟨ret_int HC2.out.symm, _, by rw [World.drewN_drewN, World.drewN_drewN]⟩
        · have HC2 : Hid (cmpS a b = 1) := by unfold Hid; rw [HC.out, if_neg hl]
          go_wp2_with fail
          go_quiet (fail)
          go_wp2_with fail
          go_quiet (fail)
          go_wp2
          go_ret
          exact ⟨ret_int HC2.out.symm, _, by rw [World.drewN_drewN, World.drewN_drewN]⟩
    · have HC : Hid (cmpS a b = if (a.size : Int) < (b.size : Int) then -1 else if (b.size : Int) < (a.size : Int) then 1 else 0) := cmpS_end a b k hka hkb (by omega) HTK.out
      have hcs : ¬ (k : Int) < (a.size : Int) ∨ ((k : Int) < (a.size : Int) ∧ ¬ (k : Int) < (b.size : Int)) := by omega
      have hsz : (a.size : Int) < (b.size : Int) ∨ (¬ (a.size : Int) < (b.size : Int) ∧ (b.size : Int) < (a.size : Int)) ∨ (¬ (a.size : Int) < (b.size : Int) ∧ ¬ (b.size : Int) < (a.size : Int)) := by omega
      rcases hsz with z1 | ⟨z1, z2⟩ | ⟨z1, z2⟩
      · have HC2 : Hid (cmpS a b = -1) := by unfold Hid; rw [HC.out, if_pos z1]
        rcases hcs with c1 | ⟨c1, c2⟩
        all_goals
          go_wp2
          go_ret
          exact ⟨ret_int HC2.out.symm, _, rfl⟩
      · have HC2 : Hid (cmpS a b = 1) := by unfold Hid; rw [HC.out, if_neg z1, if_pos z2]
        rcases hcs with c1 | ⟨c1, c2⟩
        all_goals
          go_wp2
          go_ret
          exact ⟨ret_int HC2.out.symm, _, rfl⟩
      · have HC2 : Hid (cmpS a b = 0) := by unfold Hid; rw [HC.out, if_neg z1, if_neg z2]
        rcases hcs with c1 | ⟨c1, c2⟩
        all_goals
          go_wp2
          go_ret
          exact ⟨ret_int HC2.out.symm, _, rfl⟩

/-- How two values of a type stand. -/
def orderI (k n : Int) (s : ByteArray) (m : Int) (t : ByteArray) : Int :=
  if k = 3 then cmpS s t else if k = 2 then (if keyI n < keyI m then -1 else if keyI m < keyI n then 1 else 0) else (if n < m then -1 else if m < n then 1 else 0)

theorem keyI_bd (n : Int) (h1 : -9223372036854775808 ≤ n) (h2 : n ≤ 9223372036854775807) : -9223372036854775808 ≤ keyI n ∧ keyI n ≤ 9223372036854775807 := by
  unfold keyI magI; split <;> omega

set_option maxHeartbeats 400000 in
theorem refOrder_any (k n : Int) (s : ByteArray) (m : Int) (t : ByteArray) (w : World) (n1 : -9223372036854775808 ≤ n) (n2 : n ≤ 9223372036854775807) (m1 : -9223372036854775808 ≤ m) (m2 : m ≤ 9223372036854775807) (hs : s.size ≤ 9000000) :
    Calls Tryd.prog 90 #[.int .i64 k, .agg #[.int .i64 n, .string s], .agg #[.int .i64 m, .string t]] w fun e w' => e = .returned (.int .i64 (orderI k n s m t)) ∧ Below w.heap.size w w' := by
  by_cases h3 : k = 3
  · subst h3
    go_enter Tryd.func90, Tryd.ntmps90
    go_wp2_with fail
    refine (refBytes_any s t _ hs).mono ?_
    rintro e w1 ⟨rfl, q, rfl⟩
    go_wp2
    go_ret
    exact ⟨ret_int (by unfold orderI; rw [if_pos rfl]), (((Below.refl _ _).alloc (Nat.le_refl _) _).alloc (by simp) _).trans ((drewN_below' _ q).mono (by simp; omega))⟩
  · have e3 : (k == 3) = false := by simpa using h3
    by_cases h2 : k = 2
    · subst h2
      have b1 := keyI_bd n n1 n2
      have b2 := keyI_bd m m1 m2
      have HO : Hid (orderI 2 n s m t = if keyI n < keyI m then -1 else if keyI m < keyI n then 1 else 0) := by unfold orderI Hid; rw [if_neg (by omega), if_pos rfl]
      go_enter Tryd.func90, Tryd.ntmps90
      go_wp2_with (go_at_call 98; refine (refSize_any _ _ (by assumption) (by assumption)).mono ?_; rintro e w' ⟨rfl, rfl⟩)
      all_goals go_ret
      all_goals refine ⟨ret_int ?_, ((Below.refl _ _).alloc (Nat.le_refl _) _).alloc (by simp) _⟩
      all_goals rw [HO.out]
      all_goals first | rw [if_pos (by assumption)] | rw [if_neg (by omega), if_pos (by omega)] | rw [if_neg (by omega), if_neg (by omega)]
    · have e2 : (k == 2) = false := by simpa using h2
      have HO : Hid (orderI k n s m t = if n < m then -1 else if m < n then 1 else 0) := by unfold orderI Hid; rw [if_neg h3, if_neg h2]
      clear h2 h3
      go_enter Tryd.func90, Tryd.ntmps90
      go_wp2
      all_goals go_ret
      all_goals refine ⟨ret_int ?_, ((Below.refl _ _).alloc (Nat.le_refl _) _).alloc (by simp) _⟩
      all_goals rw [HO.out]
      all_goals first | rw [if_pos (by assumption)] | rw [if_neg (by omega), if_pos (by omega)] | rw [if_neg (by omega), if_neg (by omega)]

end Go.Proofs.YtcconhgbefhdeaaDoor
