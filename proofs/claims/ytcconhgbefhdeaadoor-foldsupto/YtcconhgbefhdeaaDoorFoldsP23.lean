import Derived.Test.YtcconhgbefhdeaaDoorFoldsP08
import Derived.ProofKit
import Derived.OpenShut
import Derived.Lib.SmallJoins
import Derived.Deep.Slices
namespace Go.Proofs.YtcconhgbefhdeaaDoor
open Go.RowKit

theorem kinds_new (w : World) (ks : List Int) : KindsIn (w.alloc (.cells (ks.map (Value.int .i64)).toArray 3)) w.heap.size ks := fun i hi => by
  rw [cell_of_row _ _ _ _ _ _ (heap_alloc_new w _)]; simp [hi]

theorem rowBlk_new (w : World) (r : List (Int × ByteArray)) : RowBlk (w.alloc (.cells (vcells r).toArray 30)) (w.heap.size, r) := heap_alloc_new w _

def bA : ByteArray := ⟨#[97]⟩
def bB : ByteArray := ⟨#[98]⟩
def bC : ByteArray := ⟨#[99]⟩
def bE : ByteArray := ⟨#[]⟩
def knR1 : List (Int × ByteArray) := [(5, bE), (0, bA)]
def knR2 : List (Int × ByteArray) := [(7, bE), (0, bB)]
def knR3 : List (Int × ByteArray) := [(5, bE), (0, bC)]
def knT : List Tst := [⟨5, 0, 5, bE⟩, ⟨1, 1, 0, bC⟩, ⟨8, 0, 0, bE⟩]

theorem knFilter : [knR1, knR2, knR3].filter (fun r => passB [1, 3] r knT) = [knR2, knR3] := by
  have h1 : passB [1, 3] knR1 knT = false := by kernel_rfl
  have h2 : passB [1, 3] knR2 knT = true := by kernel_rfl
  have h3 : passB [1, 3] knR3 knT = true := by kernel_rfl
  simp [List.filter, h1, h2, h3]

theorem knFits (r : List (Int × ByteArray)) (h : r = knR1 ∨ r = knR2 ∨ r = knR3) : FitsRow [1, 3] r ∧ (∀ p ∈ r, p.2.size ≤ 1000000) ∧ r.length = 2 := by
  have e1 : fitsB 1 5 bE = true := by kernel_rfl
  have e2 : fitsB 1 7 bE = true := by kernel_rfl
  have e3 : fitsB 3 0 bA = true := by kernel_rfl
  have e4 : fitsB 3 0 bB = true := by kernel_rfl
  have e5 : fitsB 3 0 bC = true := by kernel_rfl
  have s1 : bE.size = 0 := by kernel_rfl
  have s2 : bA.size = 1 := by kernel_rfl
  have s3 : bB.size = 1 := by kernel_rfl
  have s4 : bC.size = 1 := by kernel_rfl
  rcases h with rfl | rfl | rfl
  all_goals
    refine ⟨⟨rfl, fun i h h' => ?_⟩, ?_, rfl⟩
    · match i, h with
      | 0, _ => assumption
      | 1, _ => assumption
    · intro p hp
      simp only [knR1, knR2, knR3, List.mem_cons, List.not_mem_nil, or_false] at hp
      rcases hp with rfl | rfl <;> simp only [s1, s2, s3, s4] <;> omega

theorem knValid : ValidT [1, 3] knT := by
  have e1 : fitsB 1 5 bE = true := by kernel_rfl
  have e5 : fitsB 3 0 bC = true := by kernel_rfl
  refine ⟨fun i h => ?_, .inr (by kernel_rfl), by decide⟩
  match i, h with
  | 0, _ => exact .inl ⟨by simp [knT], 0, rfl, by simp, e1⟩
  | 1, _ => exact .inl ⟨by simp [knT], 1, rfl, by simp, e5⟩
  | 2, _ => exact .inr ⟨by simp [knT], by simp [knT, takesI, cntI]⟩

theorem knTests (w : World) : TestsIn (w.alloc (.cells #[.int .i64 5, .int .i64 0, .int .i64 5, .string ⟨#[]⟩, .int .i64 1, .int .i64 1, .int .i64 0, .string ⟨#[99]⟩, .int .i64 8, .int .i64 0, .int .i64 0, .string ⟨#[]⟩] 32)) w.heap.size knT := fun i hi => by
  have hb := heap_alloc_new w (.cells #[.int .i64 5, .int .i64 0, .int .i64 5, .string ⟨#[]⟩, .int .i64 1, .int .i64 1, .int .i64 0, .string ⟨#[99]⟩, .int .i64 8, .int .i64 0, .int .i64 0, .string ⟨#[]⟩] 32)
  rw [cell_of_row _ _ _ _ _ _ hb, cell_of_row _ _ _ _ _ _ hb, cell_of_row _ _ _ _ _ _ hb, cell_of_row _ _ _ _ _ _ hb]
  match i, hi with
  | 0, _ => exact ⟨rfl, rfl, rfl, rfl⟩
  | 1, _ => exact ⟨rfl, rfl, rfl, rfl⟩
  | 2, _ => exact ⟨rfl, rfl, rfl, rfl⟩

theorem knRows (a b c : Nat) : ∀ p ∈ [] ++ [(a, knR1)] ++ [(b, knR2)] ++ [(c, knR3)], p.2.length = [(1 : Int), 3].length ∧ ∀ x ∈ p.2, x.2.size ≤ 1000000 := by
  intro p hp
  simp only [List.nil_append, List.append_assoc, List.mem_append, List.mem_singleton] at hp
  rcases hp with rfl | rfl | rfl
  · exact ⟨rfl, (knFits _ (.inl rfl)).2.1⟩
  · exact ⟨rfl, (knFits _ (.inr (.inl rfl))).2.1⟩
  · exact ⟨rfl, (knFits _ (.inr (.inr rfl))).2.1⟩

theorem knTwo (w : World) : RowsIn (((w.alloc (.cells (vcells knR2).toArray 30)).alloc (.cells (vcells knR3).toArray 30)).alloc (.cells #[.slice (some ⟨w.heap.size, 0, none⟩) 2 2, .slice (some ⟨w.heap.size + 1, 0, none⟩) 2 2] 25)) (some ⟨w.heap.size + 2, 0, none⟩) [(w.heap.size, knR2), (w.heap.size + 1, knR3)] := by
  have hz : ((w.alloc (.cells (vcells knR2).toArray 30)).alloc (.cells (vcells knR3).toArray 30)).heap.size = w.heap.size + 2 := by simp
  refine ⟨.inr ⟨w.heap.size + 2, rfl, fun k hk => ?_⟩, fun p hp => ?_⟩
  · rw [← hz, cell_of_row _ _ _ _ _ _ (heap_alloc_new _ _)]
    match k, hk with
    | 0, _ => rfl
    | 1, _ => rfl
  · simp only [List.mem_cons, List.not_mem_nil, or_false] at hp
    unfold RowBlk
    rcases hp with rfl | rfl
    · rw [Below.heap_alloc _ _ _ (by simp; omega), Below.heap_alloc _ _ _ (by simp)]
      exact heap_alloc_new w _
    · rw [Below.heap_alloc _ _ _ (by simp)]
      exact new_second w _ _

theorem Fr.tableBelow {w w' w0 : World} {base bt bs : Nat} {ks : List Int} {L : List (Nat × List (Int × ByteArray))} {sv fv : Value} (h : TableAt w0 base bt bs ks L sv fv) (hF : Fr (bs :: fv.ownBlock.toList) w w') (hb : base ≤ w.heap.size) : Below base w w' :=
  hF.below hb (fun i hi => by
    rcases List.mem_cons.1 hi with rfl | hi
    · exact h.sto.lo
    · exact (h.sto.rows.own.lt i (by simpa using hi)).1)

set_option maxRecDepth 100000 in
set_option maxHeartbeats 1000000 in
theorem known_ok (w : World) : Calls Tryd.prog 9 #[] w fun e w' => e = .returned (.bool true) ∧ Below w.heap.size w w' := by
  go_enter Tryd.func9, Tryd.ntmps9
  go_wp2_with fail
  refine (new_ok w.heap.size 2 [1, 3] _ (kinds_new w [1, 3]) (by decide) (by decide) (by decide)).mono ?_
  rintro e w1 ⟨bt, bs, sv, rfl, h1, hb1⟩
  have s1 := hb1.size
  simp at s1
  have t1 := h1.below ((Below.refl w1.heap.size w1).alloc (Nat.le_refl _) (.cells (vcells knR1).toArray 30))
  go_wp2_with fail
  refine (tableAppend_ok _ bt bs [1, 3] [] sv _ knR1 w1.heap.size 2 _ t1 (by simp; omega) (by decide) (rowBlk_new w1 knR1).rowIn (by decide) (by decide) (knFits _ (.inl rfl)).1 (knFits _ (.inl rfl)).2.1).mono ?_
  rintro e w2 ⟨rfl, fv2, g2, h2, _, hF2, _⟩
  have B2 := hF2.tableBelow t1 (by simp; omega)
  have s2 := hF2.size
  simp at s2
  clear hF2
  have t2 := h2.below ((Below.refl w2.heap.size w2).alloc (Nat.le_refl _) (.cells (vcells knR2).toArray 30))
  go_wp2_with fail
  refine (tableAppend_ok _ bt bs [1, 3] _ sv _ knR2 w2.heap.size 2 _ t2 (by simp; omega) (by simp) (rowBlk_new w2 knR2).rowIn (by decide) (by decide) (knFits _ (.inr (.inl rfl))).1 (knFits _ (.inr (.inl rfl))).2.1).mono ?_
  rintro e w3 ⟨rfl, fv3, g3, h3, _, hF3, _⟩
  have B3 := hF3.tableBelow t2 (by simp; omega)
  have s3 := hF3.size
  simp at s3
  clear hF3
  have t3 := h3.below ((Below.refl w3.heap.size w3).alloc (Nat.le_refl _) (.cells (vcells knR3).toArray 30))
  go_wp2_with fail
  refine (tableAppend_ok _ bt bs [1, 3] _ sv _ knR3 w3.heap.size 2 _ t3 (by simp; omega) (by simp) (rowBlk_new w3 knR3).rowIn (by decide) (by decide) (knFits _ (.inr (.inr rfl))).1 (knFits _ (.inr (.inr rfl))).2.1).mono ?_
  rintro e w4 ⟨rfl, fv4, g4, h4, _, hF4, _⟩
  have B4 := hF4.tableBelow t3 (by simp; omega)
  have s4 := hF4.size
  simp at s4
  clear hF4
  have t4 := h4.below ((Below.refl w4.heap.size w4).alloc (Nat.le_refl _) (.cells #[.int .i64 5, .int .i64 0, .int .i64 5, .string ⟨#[]⟩, .int .i64 1, .int .i64 1, .int .i64 0, .string ⟨#[99]⟩, .int .i64 8, .int .i64 0, .int .i64 0, .string ⟨#[]⟩] 32))
  go_wp2_with fail
  refine (scan_ok _ bt bs [1, 3] _ sv _ 3 (some ⟨w4.heap.size, 0, none⟩) knT _ t4 (by simp) (by decide) (by decide) (knRows g2 g3 g4) (.inr ⟨_, rfl, knTests w4⟩) knValid).mono ?_
  rintro e w5 ⟨v, M, rfl, hM, hMe, hb5, _⟩
  have s5 := hb5.size
  simp at s5
  have hMk : M.map Prod.snd = [knR2, knR3] := by rw [hMe]; exact knFilter
  have hM2 : M.length = 2 := by have := congrArg List.length hMk; simpa using this
  have hM' : RowsAt (((w5.alloc (.cells (vcells knR2).toArray 30)).alloc (.cells (vcells knR3).toArray 30)).alloc (.cells #[.slice (some ⟨w5.heap.size, 0, none⟩) 2 2, .slice (some ⟨w5.heap.size + 1, 0, none⟩) 2 2] 25)) _ v M :=
    hM.keepOn (fun k hk _ => by rw [Below.heap_alloc _ _ _ (by simp; omega), Below.heap_alloc _ _ _ (by simp; omega), Below.heap_alloc _ _ _ hk])
  obtain ⟨va, vc, hve, hvin⟩ := hM'.rowsIn
  rw [hM2] at hve
  subst hve
  have HV : Hid (RowsIn (((w5.alloc (.cells (vcells knR2).toArray 30)).alloc (.cells (vcells knR3).toArray 30)).alloc (.cells #[.slice (some ⟨w5.heap.size, 0, none⟩) 2 2, .slice (some ⟨w5.heap.size + 1, 0, none⟩) 2 2] 25)) va M) := hvin
  have HK : Hid (M.map Prod.snd = [knR2, knR3]) := hMk
  have H2 : Hid (M.length = 2) := hM2
  clear hvin hMk hM2 hM' hM hMe t1 t2 t3 t4 h1 h2 h3 h4
  go_wp2_with fail
  have hs := same_eq va (some ⟨w5.heap.size + 2, 0, none⟩) vc 2 M [(w5.heap.size, knR2), (w5.heap.size + 1, knR3)] _ HV.out (knTwo w5) HK.out (by have := H2.out; omega) (fun p hp => by
    have : p.2 ∈ [knR2, knR3] := by rw [← HK.out]; exact List.mem_map_of_mem hp
    simp only [List.mem_cons, List.not_mem_nil, or_false] at this
    rcases this with h | h <;> rw [h] <;> decide)
  rw [H2.out] at hs
  refine hs.mono ?_
  clear hs
  rintro e w6 ⟨rfl, q, rfl⟩
  go_wp2
  go_ret
  refine ⟨rfl, ?_⟩
  have b1 : Below w.heap.size w w1 := ((Below.refl _ _).alloc (Nat.le_refl _) _).trans (hb1.mono (by simp))
  have b2 : Below w.heap.size w w2 := (b1.alloc (by omega) _).trans (B2.mono (by simp))
  have b3 : Below w.heap.size w w3 := (b2.alloc (by omega) _).trans (B3.mono (by simp))
  have b4 : Below w.heap.size w w4 := (b3.alloc (by omega) _).trans (B4.mono (by simp))
  have b5 : Below w.heap.size w w5 := (b4.alloc (by omega) _).trans (hb5.mono (by simp; omega))
  exact (((b5.alloc (by omega) _).alloc (by simp; omega) _).alloc (by simp; omega) _).trans ((drewN_below _ q).mono (by simp; omega))

end Go.Proofs.YtcconhgbefhdeaaDoor

namespace Go.Proofs.YtcconhgbefhdeaaDoor
open Go.RowKit

def RawsIn (w : World) (b o : Nat) (R : List Raw) : Prop :=
  ∀ i (h : i < R.length), w.cell? ⟨b, o + i * 4, none⟩ = some (.int .i64 R[i].n) ∧ w.cell? ⟨b, o + i * 4 + 1, none⟩ = some (.int .i64 R[i].bits) ∧ w.cell? ⟨b, o + i * 4 + 2, none⟩ = some (.string R[i].s) ∧ w.cell? ⟨b, o + i * 4 + 3, none⟩ = some (.int .i64 R[i].flag)

def IntsIn (w : World) (b o : Nat) (U : List Int) : Prop := ∀ i (h : i < U.length), w.cell? ⟨b, o + i, none⟩ = some (.int .i64 U[i])

def in64 (x : Int) : Prop := -9223372036854775808 ≤ x ∧ x ≤ 9223372036854775807
def Raw.ok (r : Raw) : Prop := in64 r.n ∧ in64 r.bits ∧ in64 r.flag

/-- Lists that are lent. -/
structure Lent (w : World) (la ua : Option Addr) (R : List Raw) (U : List Int) : Prop where
  raws : R = [] ∨ ∃ b o, la = some ⟨b, o, none⟩ ∧ RawsIn w b o R
  ints : U = [] ∨ ∃ b o, ua = some ⟨b, o, none⟩ ∧ IntsIn w b o U
  rok : ∀ r ∈ R, r.ok
  uok : ∀ u ∈ U, in64 u
  rl : (R.length : Int) ≤ 9223372036854775807
  ul : (U.length : Int) ≤ 9223372036854775807

set_option maxHeartbeats 400000 in
theorem flush_any (v : Value) (w : World) : Calls Tryd.prog 27 #[v] w fun e w' => e = .returned (.tuple #[]) ∧ w' = w := by
  go_enter Tryd.func27, Tryd.ntmps27
  go_wp2
  go_end0
  exact ⟨rfl, rfl⟩
set_option maxHeartbeats 400000 in
theorem merge_any (v : Value) (w : World) : Calls Tryd.prog 28 #[v] w fun e w' => e = .returned (.tuple #[]) ∧ w' = w := by
  go_enter Tryd.func28, Tryd.ntmps28
  go_wp2
  go_end0
  exact ⟨rfl, rfl⟩

theorem cutS_le (s : ByteArray) : (cutS s).size ≤ 40 := by
  unfold cutS
  split
  · simp [ByteArray.size_extract]; omega
  · omega

theorem pick2 (f : Int) : pickI f 2 = 0 ∨ pickI f 2 = 1 := by unfold pickI; omega

theorem raw_fits (r : Raw) : FitsRow [1, 2, 3, 4] r.row ∧ (∀ p ∈ r.row, p.2.size ≤ 1000000) ∧ r.row.length = 4 := by
  have e0 : (ByteArray.empty).toList.isEmpty = true := by kernel_rfl
  have s0 : (ByteArray.empty).size = 0 := rfl
  have hc := cutS_le r.s
  refine ⟨⟨rfl, fun i h h' => ?_⟩, fun p hp => ?_, rfl⟩
  · match i, h with
    | 0, _ => show fitsB 1 r.n .empty = true; unfold fitsB; rw [if_pos (by omega)]; exact e0
    | 1, _ => show fitsB 2 r.bits .empty = true; unfold fitsB; rw [if_pos (by omega)]; exact e0
    | 2, _ => show fitsB 3 0 (cutS r.s) = true; unfold fitsB; rw [if_neg (by omega), if_pos rfl]; exact decide_eq_true ⟨rfl, hc⟩
    | 3, _ =>
      show fitsB 4 (pickI r.flag 2) .empty = true
      unfold fitsB; rw [if_neg (by omega), if_neg (by omega), if_pos rfl, e0]
      rcases pick2 r.flag with h | h <;> rw [h] <;> rfl
  · simp only [Raw.row, List.mem_cons, List.not_mem_nil, or_false] at hp
    rcases hp with rfl | rfl | rfl | rfl
    · show (ByteArray.empty).size ≤ _; rw [s0]; omega
    · show (ByteArray.empty).size ≤ _; rw [s0]; omega
    · show (cutS r.s).size ≤ _; omega
    · show (ByteArray.empty).size ≤ _; rw [s0]; omega

/-- What a value that owns rows owns, by its type. -/
theorem own_typed {w : World} {base : Nat} {e : TypeId} {size : Nat} {v : Value} {n : Nat} {xs : List Value} (h : w.ownsRow base e size v n xs) {k : Nat} (hk : v.ownBlock = some k) : ∃ cur, w.heap[k]? = some (.cells cur e (0, 0)) := by
  rcases h.2 with ⟨h1, _⟩ | ⟨g, cap, cur, h1, _, h2, _⟩
  · rw [h1] at hk; cases hk
  · rw [h1] at hk
    simp only [Value.ownBlock, Option.some.injEq] at hk
    exact ⟨cur, by rw [← hk]; exact h2⟩

theorem types_apart {w : World} {k : Nat} {c1 c2 : Array Value} {t1 t2 : TypeId} (h1 : w.heap[k]? = some (.cells c1 t1 (0, 0))) (h2 : w.heap[k]? = some (.cells c2 t2 (0, 0))) : t1 = t2 := by
  rw [h1] at h2
  simp only [Option.some.injEq, Obj.cells.injEq] at h2
  exact h2.2.1

theorem RowsAt.afterAppend {w w' : World} {base base' bt bs : Nat} {ks : List Int} {L M : List (Nat × List (Int × ByteArray))} {sv fv rv : Value} (hM : RowsAt w base rv M) (hT : TableAt w base' bt bs ks L sv fv) (hsep : ∀ j, rv.ownBlock = some j → fv.ownBlock ≠ some j)
    (hF : Fr (bs :: fv.ownBlock.toList) w w') : RowsAt w' base rv M := by
  refine hM.keepOn (fun k hk h => hF.block k hk (fun hm => ?_))
  rcases List.mem_cons.1 hm with e | e
  · subst e
    rcases h with h | ⟨p, hp, h⟩
    · obtain ⟨cur, hc⟩ := own_typed hM.own h
      exact absurd (types_apart hc hT.sto.blk) (by decide)
    · have := (hM.blk p hp).2
      unfold RowBlk at this
      rw [h] at this
      exact absurd (types_apart this hT.sto.blk) (by decide)
  · have e' : fv.ownBlock = some k := by simpa using e
    rcases h with h | ⟨p, hp, h⟩
    · exact hsep k h e'
    · have := (hM.blk p hp).2
      unfold RowBlk at this
      rw [h] at this
      obtain ⟨cur, hc⟩ := own_typed hT.sto.rows.own e'
      exact absurd (types_apart this hc) (by decide)

theorem TableAt.afterGrow {w w' : World} {base base' bt bs : Nat} {ks : List Int} {L M : List (Nat × List (Int × ByteArray))} {sv fv rv : Value} (hT : TableAt w base' bt bs ks L sv fv) (hM : RowsAt w base rv M) (hsep : ∀ j, rv.ownBlock = some j → fv.ownBlock ≠ some j)
    (hg : w.grownBy w' rv.ownBlock) : TableAt w' base' bt bs ks L sv fv := by
  refine hT.keepOn (fun k hk h => hg.block k hk (fun e => ?_))
  obtain ⟨cur, hc⟩ := own_typed hM.own e.symm
  rcases h with h | h | h | h | ⟨p, hp, h⟩
  · subst h; exact absurd (types_apart hc hT.tab) (by decide)
  · subst h; exact absurd (types_apart hc hT.sto.blk) (by decide)
  · obtain ⟨cur', hc'⟩ := own_typed hT.sto.sch h
    exact absurd (types_apart hc hc') (by decide)
  · exact hsep k e.symm h
  · have := (hT.sto.rows.blk p hp).2
    unfold RowBlk at this
    rw [h] at this
    exact absurd (types_apart hc this) (by decide)

theorem made_close {w2 w3 w4 w5 : World} {base bt bs : Nat} {ks : List Int} {L M : List (Nat × List (Int × ByteArray))} {sv fv fv' rv nv : Value} {g' gg : Nat} {r : List (Int × ByteArray)} {o : Obj} {A : List (List (Int × ByteArray))}
    (hT : TableAt w3 base bt bs ks (L ++ [(g', r)]) sv fv') (hM : RowsAt w3 base rv M) (hb4 : Below w3.heap.size w3 w4) (hr4 : RowBlk w4 (w3.heap.size + 1, r)) (hbase : base ≤ w3.heap.size) (hLe : L.map Prod.snd = A) (hMe : M.map Prod.snd = A)
    (hsep : ∀ j, rv.ownBlock = some j → fv.ownBlock ≠ some j) (hrlt : ∀ j, rv.ownBlock = some j → j < w2.heap.size) (ho : fv'.ownBlock = fv.ownBlock ∨ ∃ k, fv'.ownBlock = some k ∧ w2.heap.size ≤ k)
    (hown : w5.ownsRow base 25 1 nv (M.length + 1) (M.map rval ++ [rval (w3.heap.size + 1, r)])) (hgrow : (w4.alloc o).grownBy w5 rv.ownBlock) (hat : rv.ownBlock = some gg ∨ gg = w4.heap.size + 1) (hnv : nv.ownBlock = some gg) :
    ∃ fv L M, TableAt w5 base bt bs ks L sv fv ∧ RowsAt w5 base nv M ∧ L.map Prod.snd = A ++ [r] ∧ M.map Prod.snd = A ++ [r] ∧ (∀ j, nv.ownBlock = some j → fv.ownBlock ≠ some j) := by
  have s4 := hb4.size
  have hsep' : ∀ j, rv.ownBlock = some j → fv'.ownBlock ≠ some j := fun j hj e => by
    rcases ho with h | ⟨k, h, hk⟩
    · rw [h] at e; exact hsep j hj e
    · rw [h] at e
      have := hrlt j hj
      simp only [Option.some.injEq] at e
      omega
  refine ⟨fv', L ++ [(g', r)], M ++ [(w3.heap.size + 1, r)], ?_, rows_push hM hb4 hr4 (by omega) hbase hown hgrow, by simp [hLe], by simp [hMe], fun j hj e => ?_⟩
  · have h4 : TableAt (w4.alloc o) base bt bs ks (L ++ [(g', r)]) sv fv' := (hT.below hb4).below ((Below.refl _ _).alloc (Nat.le_refl _) _)
    have m4 : RowsAt (w4.alloc o) base rv M := (hM.keepOn (fun j hj _ => hb4.block j hj)).keepOn (fun j hj _ => Below.heap_alloc _ _ _ hj)
    exact h4.afterGrow m4 hsep' hgrow
  · rw [hnv] at hj
    simp only [Option.some.injEq] at hj
    subst hj
    rcases hat with h | h
    · exact hsep' gg h e
    · have := (hT.sto.rows.own.lt gg e).2
      omega

/-- The rows of the first three hundred. -/
def firsts (R : List Raw) : List (List (Int × ByteArray)) := (R.take 300).map Raw.row

/-- What the statement's own maker of tables leaves. -/
def MadeAt (w w' : World) (bt : Nat) (v : Value) (R : List Raw) : Prop :=
  ∃ bs sv fv L M, TableAt w' (w.heap.size + 1) bt bs [1, 2, 3, 4] L sv fv ∧ RowsAt w' (w.heap.size + 1) v M ∧ L.map Prod.snd = firsts R ∧ M.map Prod.snd = firsts R ∧ Below w.heap.size w w'

set_option maxRecDepth 100000 in
set_option maxHeartbeats 1000000 in
theorem table_ok (la ua : Option Addr) (lc uc : Nat) (R : List Raw) (U : List Int) (w : World) (hl : Lent w la ua R U) :
    Calls Tryd.prog 10 #[.slice la R.length lc, .slice ua U.length uc] w fun e w' => ∃ bt v, e = .returned (.tuple #[.pointer (some ⟨bt, 0, none⟩), v, .bool true]) ∧ MadeAt w w' bt v R := by
  obtain ⟨i0, hi0, hz0, hz1, hz2⟩ := info_parts info_row
  have HL : Hid (Lent w la ua R U) := hl
  have rl := hl.rl
  have ul := hl.ul
  clear hl
  go_enter Tryd.func10, Tryd.ntmps10
  go_wp2_with fail
  refine (schema_ok _).mono ?_
  rintro e w0 ⟨rfl, rfl⟩
  go_wp2_with fail
  refine (new_ok w.heap.size 4 [1, 2, 3, 4] _ (kinds_new w [1, 2, 3, 4]) (by decide) (by decide) (by decide)).mono ?_
  rintro e w1 ⟨bt, bs, sv, rfl, h1, hb1⟩
  have s1 := hb1.size
  simp at s1 h1
  have B1 : Below w.heap.size w w1 := ((Below.refl _ _).alloc (Nat.le_refl _) _).trans (hb1.mono (by simp))
  have H1 : Hid (TableAt w1 (w.heap.size + 1) bt bs [1, 2, 3, 4] [] sv (.slice none 0 0)) := h1
  clear h1 hb1
  go_wp2_with fail
  go_loopw [9, 10] (fun rv i wr => ∃ k : Nat, k ≤ R.length ∧ k ≤ 300 ∧ i = .int .i64 k ∧ w.heap.size + 1 ≤ wr.heap.size ∧ Below w.heap.size w wr ∧ ∃ fv L M, TableAt wr (w.heap.size + 1) bt bs [1, 2, 3, 4] L sv fv ∧ RowsAt wr (w.heap.size + 1) rv M ∧
    L.map Prod.snd = (R.take k).map Raw.row ∧ M.map Prod.snd = (R.take k).map Raw.row ∧ (∀ j, rv.ownBlock = some j → fv.ownBlock ≠ some j)) (fun _ i _ => 300 - (intOf i).toNat)
  case atStart => exact ⟨0, Nat.zero_le _, by omega, rfl, s1, B1, _, [], [], H1.out, ⟨World.ownsRow_nil _ _ _ _, by simp⟩, rfl, rfl, fun j h => by cases h⟩
  case round =>
    obtain ⟨k, hk, hk3, rfl, hwz, hB, fv, L, M, hT, hM, hLe, hMe, hsep⟩ := hrel
    have HT : Hid (TableAt wr (w.heap.size + 1) bt bs [1, 2, 3, 4] L sv fv) := hT
    have HM : Hid (RowsAt wr (w.heap.size + 1) u9 M) := hM
    have HLE : Hid (L.map Prod.snd = (R.take k).map Raw.row) := hLe
    have HME : Hid (M.map Prod.snd = (R.take k).map Raw.row) := hMe
    have HSP : Hid (∀ j, u9.ownBlock = some j → fv.ownBlock ≠ some j) := hsep
    have hLl : L.length = k := by have := congrArg List.length hLe; simp at this; omega
    have hMl : M.length = k := by have := congrArg List.length hMe; simp at this; omega
    have HLL : Hid (L.length = k) := hLl
    have HML : Hid (M.length = k) := hMl
    clear hT hM hLe hMe hsep hLl hMl
    by_cases hlt : k < R.length ∧ k < 300
    · obtain ⟨hlt, hl3⟩ := hlt
      rcases HL.out.raws with h0 | ⟨lb, lo, rfl, hin⟩
      · rw [h0] at hlt; simp at hlt
      obtain ⟨c1, c2, c3, c4⟩ := hin k hlt
      have hlb : lb < w.heap.size := World.block_lt_of_cell? w ⟨lb, lo + k * 4, none⟩ c1
      have hxok := HL.out.rok R[k] (List.getElem_mem hlt)
      have HTK : Hid ((R.take (k + 1)).map Raw.row = (R.take k).map Raw.row ++ [R[k].row]) := by unfold Hid; rw [List.take_succ_eq_append_getElem hlt, List.map_append]; rfl
      generalize R[k] = x at *
      have f1 := hxok.2.2.1
      have f2 := hxok.2.2.2
      have e : ∀ o, wr.cell? ⟨lb, o, none⟩ = w.cell? ⟨lb, o, none⟩ := fun o => hB.cell (p := ⟨lb, o, none⟩) hlb
      have E : Hid (∀ o, wr.cell? ⟨lb, o, none⟩ = w.cell? ⟨lb, o, none⟩) := e
      have d1 := (e _).trans c1
      have d2 := (e _).trans c2
      have d3 := (e _).trans c3
      have d4 := (e _).trans c4
      have HC : Hid (w.cell? ⟨lb, lo + k * 4, none⟩ = some (.int .i64 x.n) ∧ w.cell? ⟨lb, lo + k * 4 + 1, none⟩ = some (.int .i64 x.bits) ∧ w.cell? ⟨lb, lo + k * 4 + 2, none⟩ = some (.string x.s) ∧ w.cell? ⟨lb, lo + k * 4 + 3, none⟩ = some (.int .i64 x.flag)) := ⟨c1, c2, c3, c4⟩
      have HIN : Hid (RawsIn w lb lo R) := hin
      clear c1 c2 c3 c4 e hin hxok
      go_wp2_with fail
      refine (row_ok x wr f1 f2).mono ?_
      rintro e w2 ⟨rfl, hr2, hb2⟩
      have s2 := hb2.size
      clear d1 d2 d3 d4
      have T2 := HT.out.below hb2
      go_wp2_with fail
      refine (tableAppend_ok (w.heap.size + 1) bt bs [1, 2, 3, 4] L sv fv x.row (wr.heap.size + 1) 4 w2 T2 (by omega) (by have := HLL.out; omega) hr2.rowIn (by decide) (by rw [(raw_fits x).2.2]; omega) (raw_fits x).1 (raw_fits x).2.1).mono ?_
      rintro e w3 ⟨rfl, fv', g', h3, hg3, hF3, ho3⟩
      have HO3 : Hid (fv'.ownBlock = fv.ownBlock ∨ ∃ k, fv'.ownBlock = some k ∧ w2.heap.size ≤ k) := ho3
      have s3 := hF3.size
      have B3 : Below w.heap.size w w3 := (hB.trans (hb2.mono (by omega))).trans ((hF3.tableBelow T2 (by omega)).mono (by omega))
      have M3 : Hid (RowsAt w3 (w.heap.size + 1) u9 M) := RowsAt.afterAppend (HM.out.keepOn (fun j hj _ => hb2.block j hj)) T2 HSP.out hF3
      have H3 : Hid (TableAt w3 (w.heap.size + 1) bt bs [1, 2, 3, 4] (L ++ [(g', x.row)]) sv fv') := h3
      have e : ∀ o, w3.cell? ⟨lb, o, none⟩ = w.cell? ⟨lb, o, none⟩ := fun o => B3.cell (p := ⟨lb, o, none⟩) hlb
      have d1 := (e _).trans HC.out.1
      have d2 := (e _).trans HC.out.2.1
      have d3 := (e _).trans HC.out.2.2.1
      have d4 := (e _).trans HC.out.2.2.2
      clear ho3 hF3 h3 T2 e hr2
      go_wp2_with fail
      refine (row_ok x w3 f1 f2).mono ?_
      rintro e w4 ⟨rfl, hr4, hb4⟩
      have s4 := hb4.size
      clear d1 d2 d3 d4
      have HO : Hid (w4.ownsRow (w.heap.size + 1) 25 1 u9 M.length (M.map rval)) := ownsRow_below M3.out.own hb4
      have hML : M.length ≤ 300 := by have := HML.out; omega
      have hrlt : Hid (∀ j, u9.ownBlock = some j → j < w2.heap.size) := fun j hj => by have := (HM.out.own.lt j hj).2; omega
      have hu : U.length ≤ k ∨ ∃ ub uo, ua = some ⟨ub, uo, none⟩ ∧ ∃ y, in64 y ∧ k < U.length ∧ w4.cell? ⟨ub, uo + k, none⟩ = some (.int .i64 y) ∧ ub < w.heap.size := by
        by_cases h : k < U.length
        · right
          rcases HL.out.ints with h0 | ⟨ub, uo, hua, hui⟩
          · rw [h0] at h; simp at h
          · have c := hui k h
            have hlt : ub < w.heap.size := World.block_lt_of_cell? w ⟨ub, uo + k, none⟩ c
            exact ⟨ub, uo, hua, U[k], HL.out.uok _ (List.getElem_mem h), h, (hb4.cell (p := ⟨ub, uo + k, none⟩) (by simp; omega)).trans ((B3.cell (p := ⟨ub, uo + k, none⟩) hlt).trans c), hlt⟩
        · left; omega
      rcases hu with hu | ⟨ub, uo, rfl, y, hy, hul, hcu, hub⟩
      · have hu' : ¬ ((k : Int) < (U.length : Int)) := by omega
        go_wp2_with (at_builtin; refine wpList_append_lies _ rfl _ _ _ rfl (w.heap.size + 1) 25 i0 _ 1 24 Tryd.underlying39 hi0 hz0 hz1 hz2 rfl (by omega) u9 M.length (M.map rval) (by rfl) (HO.out.alloc _) ⟨w4.heap.size, 0, none⟩ 1 1 [.slice (some ⟨w3.heap.size + 1, 0, none⟩) 4 4] (by rfl) (by rfl) (World.news_of_block (cs := #[.slice (some ⟨w3.heap.size + 1, 0, none⟩) 4 4]) (t := 25) (fr := (0, 0)) (heap_alloc_new w4 _)) (by simp [Value.oneCell']) (by omega) (by unfold maxLen; omega) (by omega) (by simp; omega) (w4.heap.size + 1) (by simp) ?_; intro gg cp w5 hown5 hgrow hat hlt5)
        go_roundw
        case rel =>
          refine ⟨k + 1, by omega, by omega, by go_num, by have := hgrow.size; simp at this; omega, Below.grown ((B3.trans (hb4.mono (by omega))).alloc (by omega) _) hgrow (by simp; omega) (fun j hj => by have := (M3.out.own.lt j hj).1; omega), ?_⟩
          rw [HTK.out]
          exact made_close H3.out M3.out hb4 hr4 (by omega) HLE.out HME.out HSP.out hrlt.out HO3.out hown5 hgrow hat rfl
        case measure => simp [intOf]; omega
      · have y1 := hy.1
        have y2 := hy.2
        have hul' : (k : Int) < (U.length : Int) := by omega
        go_wp2_with (first
          | (at_builtin; refine wpList_append_lies _ rfl _ _ _ rfl (w.heap.size + 1) 25 i0 _ 1 24 Tryd.underlying39 hi0 hz0 hz1 hz2 rfl (by omega) u9 M.length (M.map rval) (by rfl) (HO.out.alloc _) ⟨w4.heap.size, 0, none⟩ 1 1 [.slice (some ⟨w3.heap.size + 1, 0, none⟩) 4 4] (by rfl) (by rfl) (World.news_of_block (cs := #[.slice (some ⟨w3.heap.size + 1, 0, none⟩) 4 4]) (t := 25) (fr := (0, 0)) (heap_alloc_new w4 _)) (by simp [Value.oneCell']) (by omega) (by unfold maxLen; omega) (by omega) (by simp; omega) (w4.heap.size + 1) (by simp) ?_; intro gg cp w5 hown5 hgrow hat hlt5
             have hcu5 : w5.cell? ⟨ub, uo + k, none⟩ = some (.int .i64 y) := (hgrow.cell_far ⟨ub, uo + k, none⟩ (by simp; omega) (fun e => by have := (M3.out.own.lt ub e.symm).1; omega)).trans ((cell_alloc w4 _ ub _ (by omega)).trans hcu))
          | (go_at_call 18; refine (pick_any _ _ _ y1 y2 (by omega) (by omega)).mono ?_; rintro e w' ⟨rfl, rfl⟩)
          | (go_at_call 27; refine (flush_any _ _).mono ?_; rintro e w' ⟨rfl, rfl⟩)
          | (go_at_call 28; refine (merge_any _ _).mono ?_; rintro e w' ⟨rfl, rfl⟩))
        all_goals
          go_roundw
          case rel =>
            refine ⟨k + 1, by omega, by omega, by go_num, by have := hgrow.size; simp at this; omega, Below.grown ((B3.trans (hb4.mono (by omega))).alloc (by omega) _) hgrow (by simp; omega) (fun j hj => by have := (M3.out.own.lt j hj).1; omega), ?_⟩
            rw [HTK.out]
            exact made_close H3.out M3.out hb4 hr4 (by omega) HLE.out HME.out HSP.out hrlt.out HO3.out hown5 hgrow hat rfl
          case measure => simp [intOf]; omega
    · have e0 : R.take k = R.take 300 := by
        by_cases h : k < 300
        · rw [List.take_of_length_le (by omega), List.take_of_length_le (by omega)]
        · have : k = 300 := by omega
          rw [this]
      have HE0 : Hid (R.take k = R.take 300) := e0
      clear e0
      have hc : ¬ ((k : Int) < (R.length : Int)) ∨ ((k : Int) < (R.length : Int) ∧ ¬ ((k : Int) < 300)) := by omega
      rcases hc with hc | ⟨hc1, hc2⟩
      · go_wp2
        go_ret3
        exact ⟨bt, u9, rfl, bs, sv, fv, L, M, HT.out, HM.out, by unfold firsts; rw [HLE.out, HE0.out], by unfold firsts; rw [HME.out, HE0.out], hB⟩
      · go_wp2
        go_ret3
        exact ⟨bt, u9, rfl, bs, sv, fv, L, M, HT.out, HM.out, by unfold firsts; rw [HLE.out, HE0.out], by unfold firsts; rw [HME.out, HE0.out], hB⟩

end Go.Proofs.YtcconhgbefhdeaaDoor

namespace Go.Proofs.YtcconhgbefhdeaaDoor
open Go.ChangeShapes Go.WideShapes Go.ChangeAt Go.RowKit Go.Joins Go.Deep

section
variable {H : Type} {enc : TypeId × Value → H} {W : World}

theorem cells_raw : Tryd.prog.cellsOf 36 = 4 := by kernel_rfl

theorem addr_add (b o i : Nat) : (⟨b, o, none⟩ : Addr).add i = ⟨b, o + i, none⟩ := by unfold Addr.add; split <;> simp_all

set_option maxRecDepth 100000 in
/-- One raw row out of its cells. -/
theorem open_raw_cells {base : Nat} {spare : Nat → Bool} {held : Bool} {n : Nat} {cs : List Value} {x : DataW H × List MemPlace} (h : DataW.trod enc Tryd.prog W base spare held n 36 cs = some x) :
    ∃ r : Raw, r.ok ∧ cs = [.int .i64 r.n, .int .i64 r.bits, .string r.s, .int .i64 r.flag] := by
  obtain ⟨y0, y1, y2, y3, m, _, hl, h0, h1, h2, h3⟩ := trod_struct4 Tryd.underlying36 h
  rw [cells_raw] at hl
  match cs, hl with
  | [v0, v1, v2, v3], _ =>
    have k2 : Tryd.prog.cellsOf 2 = 1 := by kernel_rfl
    have k9 : Tryd.prog.cellsOf 9 = 1 := by kernel_rfl
    have k3 : Tryd.prog.cellsOf 3 = 1 := by kernel_rfl
    obtain ⟨a, e0, _, w0⟩ := DataW.trod_int Tryd.underlying2 h0
    obtain ⟨b, e1, _, w1⟩ := DataW.trod_int Tryd.underlying2 h1
    obtain ⟨s, e2, _, _⟩ := DataW.trod_string Tryd.underlying9 h2
    obtain ⟨f, e3, _, w3⟩ := DataW.trod_int Tryd.underlying3 h3
    simp [k2] at e0 e1
    simp [k9] at e2
    simp [k3] at e3
    exact ⟨⟨a, b, s, f⟩, ⟨bounds_i64 w0, bounds_i64 w1, bounds_i64 w3⟩, by rw [e0, e1, e2, e3]⟩

theorem open_raws {v : Value} {d : DataW H} {p : List MemPlace} {a0 : Option Addr} {len cap : Nat} (hv : v = .slice a0 len cap) (h : DataW.Trod enc Tryd.prog W 0 (fun _ => true) true 34 v d p) :
    ∃ R : List Raw, R.length = len ∧ (len : Int) ≤ 9223372036854775807 ∧ (∀ r ∈ R, r.ok) ∧ (R = [] ∨ ∃ b o, a0 = some ⟨b, o, none⟩ ∧ RawsIn W b o R) := by
  subst hv
  obtain ⟨fuel, hf⟩ := h
  rcases open_slice Tryd.underlying34 hf with ⟨hcs, _⟩ | ⟨a, l, c, m, n, D, Pl, hcs, _, hl, hm, hmm, _, hx⟩
  · simp [Value.cells] at hcs
    obtain ⟨rfl, rfl, rfl⟩ := hcs
    exact ⟨[], rfl, by omega, by simp, .inl rfl⟩
  · simp [Value.cells] at hcs
    obtain ⟨rfl, rfl, rfl⟩ := hcs
    have hlm : len ≤ m := by rw [hmm]; simpa using hl
    have hmax : (len : Int) ≤ 9223372036854775807 := by unfold maxLen at hm; omega
    have each : ∀ i, i < len → ∃ r : Raw, r.ok ∧ W.cell? (a.add (i * 4)) = some (.int .i64 r.n) ∧ W.cell? (a.add (i * 4 + 1)) = some (.int .i64 r.bits) ∧ W.cell? (a.add (i * 4 + 2)) = some (.string r.s) ∧ W.cell? (a.add (i * 4 + 3)) = some (.int .i64 r.flag) := by
      intro i hi
      obtain ⟨cs', h1, h2⟩ := hx i (by omega)
      rw [cells_raw] at h1
      obtain ⟨_, _, hcell⟩ := World.cells?_some h1
      obtain ⟨r, hr, rfl⟩ := open_raw_cells h2
      have e0 := hcell 0 (by omega)
      have e1 := hcell 1 (by omega)
      have e2 := hcell 2 (by omega)
      have e3 := hcell 3 (by omega)
      rw [add_add] at e0 e1 e2 e3
      exact ⟨r, hr, by simpa using e0, by simpa using e1, by simpa using e2, by simpa using e3⟩
    have hI : Inhabited Raw := ⟨⟨0, 0, .empty, 0⟩⟩
    obtain ⟨f, hf⟩ := choose_lt each
    refine ⟨(List.range len).map f, by simp, hmax, ?_, ?_⟩
    · intro r hr
      obtain ⟨i, hi, rfl⟩ := List.mem_map.1 hr
      exact (hf i (List.mem_range.1 hi)).1
    · by_cases h0 : len = 0
      · left; subst h0; rfl
      · right
        obtain ⟨b, off, spot⟩ := a
        have hspot : spot = none := by simpa [Addr.add] using World.cell?_spot (hf 0 (by omega)).2.1
        subst hspot
        refine ⟨b, off, rfl, fun i hi => ?_⟩
        have hi' : i < len := by simpa using hi
        have := (hf i hi').2
        simp only [addr_add] at this
        simpa [Nat.add_assoc] using this

theorem open_turns {v : Value} {d : DataW H} {p : List MemPlace} {a0 : Option Addr} {len cap : Nat} (hv : v = .slice a0 len cap) (h : DataW.Trod enc Tryd.prog W 0 (fun _ => true) true 24 v d p) :
    ∃ U : List Int, U.length = len ∧ (len : Int) ≤ 9223372036854775807 ∧ (∀ u ∈ U, in64 u) ∧ (U = [] ∨ ∃ b o, a0 = some ⟨b, o, none⟩ ∧ IntsIn W b o U) := by
  subst hv
  obtain ⟨fuel, hf⟩ := h
  rcases open_ints Tryd.underlying24 Tryd.underlying3 (by kernel_rfl) hf with ⟨hcs, _⟩ | ⟨a, l, c, zs, hcs, _, hl, hm, hz, _, hcell, hwz⟩
  · simp [Value.cells] at hcs
    obtain ⟨rfl, rfl, rfl⟩ := hcs
    exact ⟨[], rfl, by omega, by simp, .inl rfl⟩
  · simp [Value.cells] at hcs
    obtain ⟨rfl, rfl, rfl⟩ := hcs
    have hzl : zs.length = cap := by simpa using hz
    have hmax : (len : Int) ≤ 9223372036854775807 := by unfold maxLen at hm; omega
    refine ⟨zs.take len, by simp; omega, hmax, fun u hu => bounds_i64 (hwz u (List.mem_of_mem_take hu)), ?_⟩
    by_cases h0 : len = 0
    · left; subst h0; simp
    · right
      obtain ⟨b, off, spot⟩ := a
      have hspot : spot = none := by simpa [Addr.add] using World.cell?_spot (hcell 0 (by omega))
      subst hspot
      refine ⟨b, off, rfl, fun i hi => ?_⟩
      have hi' : i < len := by simp at hi; omega
      have := hcell i (by omega)
      simp [List.getD, show i < zs.length by omega] at this
      rw [addr_add] at this
      simpa using this

end

theorem own : ownKnob Tryd.prog.godebug = none := by kernel_rfl
theorem laidOut : laidOutB Tryd.prog = true := by kernel_rfl

end Go.Proofs.YtcconhgbefhdeaaDoor
