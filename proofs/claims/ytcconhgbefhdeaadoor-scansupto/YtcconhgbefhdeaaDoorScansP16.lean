import Derived.Test.YtcconhgbefhdeaaDoorScansP15
import Derived.ProofKit
import Derived.OpenShut
import Derived.Lib.SmallJoins
import Derived.Deep.Slices
import Derived.Test.YtcconhgbefhdeaaDoorRows
import Derived.LaidMore
import Derived.LaidHandle
import Derived.LaidLaws
import Derived.Test.YtcconhgbefhdeaaDoorTie
import Derived.Test.YtcconhgbefhdeaaDoorCards
import Derived.Stop.Joined
import Derived.SevenTiedAt
import Derived.Deep.DeepHandedRow
namespace Go.Proofs.YtcconhgbefhdeaaDoor
open Go.RowKit

def RawsIn (w : World) (b o : Nat) (R : List Raw) : Prop :=
  ∀ i (h : i < R.length), w.cell? ⟨b, o + i * 4, none⟩ = some (.int .i64 R[i].n) ∧ w.cell? ⟨b, o + i * 4 + 1, none⟩ = some (.int .i64 R[i].bits) ∧ w.cell? ⟨b, o + i * 4 + 2, none⟩ = some (.string R[i].s) ∧ w.cell? ⟨b, o + i * 4 + 3, none⟩ = some (.int .i64 R[i].flag)

def IntsIn (w : World) (b o : Nat) (U : List Int) : Prop := ∀ i (h : i < U.length), w.cell? ⟨b, o + i, none⟩ = some (.int .i64 U[i])

def in64 (x : Int) : Prop := -9223372036854775808 ≤ x ∧ x ≤ 9223372036854775807
def Raw.ok (r : Raw) : Prop := in64 r.n ∧ in64 r.bits ∧ in64 r.flag

/-- Lists that are lent. -/
structure Lent (w : World) (la ua : Option Addr) (R : List Raw) (U : List Int) : Prop where
  raws : R = [] ∨ ∃ b o, la = some ⟨b, o, none⟩ ∧ RawsIn w b o R
  ints : U = [] ∨ ∃ b o, ua = some ⟨b, o, none⟩ ∧ IntsIn w b o U
  rok : ∀ r ∈ R, r.ok
  uok : ∀ u ∈ U, in64 u
  rl : (R.length : Int) ≤ 9223372036854775807
  ul : (U.length : Int) ≤ 9223372036854775807

set_option maxHeartbeats 400000 in
theorem flush_any (v : Value) (w : World) : Calls Tryd.prog 27 #[v] w fun e w' => e = .returned (.tuple #[]) ∧ w' = w := by
  go_enter Tryd.func27, Tryd.ntmps27
  go_wp2
  go_end0
  exact ⟨rfl, rfl⟩
set_option maxHeartbeats 400000 in
theorem merge_any (v : Value) (w : World) : Calls Tryd.prog 28 #[v] w fun e w' => e = .returned (.tuple #[]) ∧ w' = w := by
  go_enter Tryd.func28, Tryd.ntmps28
  go_wp2
  go_end0
  exact ⟨rfl, rfl⟩

theorem cutS_le (s : ByteArray) : (cutS s).size ≤ 40 := by
  unfold cutS
  split
  · simp [ByteArray.size_extract]; omega
  · omega

theorem pick2 (f : Int) : pickI f 2 = 0 ∨ pickI f 2 = 1 := by unfold pickI; omega

theorem raw_fits (r : Raw) : FitsRow [1, 2, 3, 4] r.row ∧ (∀ p ∈ r.row, p.2.size ≤ 1000000) ∧ r.row.length = 4 := by
  have e0 : (ByteArray.empty).toList.isEmpty = true := by kernel_rfl
  have s0 : (ByteArray.empty).size = 0 := rfl
  have hc := cutS_le r.s
  refine ⟨⟨rfl, fun i h h' => ?_⟩, fun p hp => ?_, rfl⟩
  · match i, h with
    | 0, _ => show fitsB 1 r.n .empty = true; unfold fitsB; rw [if_pos (by omega)]; exact e0
    | 1, _ => show fitsB 2 r.bits .empty = true; unfold fitsB; rw [if_pos (by omega)]; exact e0
    | 2, _ => show fitsB 3 0 (cutS r.s) = true; unfold fitsB; rw [if_neg (by omega), if_pos rfl]; exact decide_eq_true ⟨rfl, hc⟩
    | 3, _ =>
      show fitsB 4 (pickI r.flag 2) .empty = true
      unfold fitsB; rw [if_neg (by omega), if_neg (by omega), if_pos rfl, e0]
      rcases pick2 r.flag with h | h <;> rw [h] <;> rfl
  · simp only [Raw.row, List.mem_cons, List.not_mem_nil, or_false] at hp
    rcases hp with rfl | rfl | rfl | rfl
    · show (ByteArray.empty).size ≤ _; rw [s0]; omega
    · show (ByteArray.empty).size ≤ _; rw [s0]; omega
    · show (cutS r.s).size ≤ _; omega
    · show (ByteArray.empty).size ≤ _; rw [s0]; omega

/-- What a value that owns rows owns, by its type. -/
theorem own_typed {w : World} {base : Nat} {e : TypeId} {size : Nat} {v : Value} {n : Nat} {xs : List Value} (h : w.ownsRow base e size v n xs) {k : Nat} (hk : v.ownBlock = some k) : ∃ cur, w.heap[k]? = some (.cells cur e (0, 0)) := by
  rcases h.2 with ⟨h1, _⟩ | ⟨g, cap, cur, h1, _, h2, _⟩
  · rw [h1] at hk; cases hk
  · rw [h1] at hk
    simp only [Value.ownBlock, Option.some.injEq] at hk
    exact ⟨cur, by rw [← hk]; exact h2⟩

theorem types_apart {w : World} {k : Nat} {c1 c2 : Array Value} {t1 t2 : TypeId} (h1 : w.heap[k]? = some (.cells c1 t1 (0, 0))) (h2 : w.heap[k]? = some (.cells c2 t2 (0, 0))) : t1 = t2 := by
  rw [h1] at h2
  simp only [Option.some.injEq, Obj.cells.injEq] at h2
  exact h2.2.1

theorem RowsAt.afterAppend {w w' : World} {base base' bt bs : Nat} {ks : List Int} {L M : List (Nat × List (Int × ByteArray))} {sv fv rv : Value} (hM : RowsAt w base rv M) (hT : TableAt w base' bt bs ks L sv fv) (hsep : ∀ j, rv.ownBlock = some j → fv.ownBlock ≠ some j)
    (hF : Fr (bs :: fv.ownBlock.toList) w w') : RowsAt w' base rv M := by
  refine hM.keepOn (fun k hk h => hF.block k hk (fun hm => ?_))
  rcases List.mem_cons.1 hm with e | e
  · subst e
    rcases h with h | ⟨p, hp, h⟩
    · obtain ⟨cur, hc⟩ := own_typed hM.own h
      exact absurd (types_apart hc hT.sto.blk) (by decide)
    · have := (hM.blk p hp).2
      unfold RowBlk at this
      rw [h] at this
      exact absurd (types_apart this hT.sto.blk) (by decide)
  · have e' : fv.ownBlock = some k := by simpa using e
    rcases h with h | ⟨p, hp, h⟩
    · exact hsep k h e'
    · have := (hM.blk p hp).2
      unfold RowBlk at this
      rw [h] at this
      obtain ⟨cur, hc⟩ := own_typed hT.sto.rows.own e'
      exact absurd (types_apart this hc) (by decide)

theorem TableAt.afterGrow {w w' : World} {base base' bt bs : Nat} {ks : List Int} {L M : List (Nat × List (Int × ByteArray))} {sv fv rv : Value} (hT : TableAt w base' bt bs ks L sv fv) (hM : RowsAt w base rv M) (hsep : ∀ j, rv.ownBlock = some j → fv.ownBlock ≠ some j)
    (hg : w.grownBy w' rv.ownBlock) : TableAt w' base' bt bs ks L sv fv := by
  refine hT.keepOn (fun k hk h => hg.block k hk (fun e => ?_))
  obtain ⟨cur, hc⟩ := own_typed hM.own e.symm
  rcases h with h | h | h | h | ⟨p, hp, h⟩
  · subst h; exact absurd (types_apart hc hT.tab) (by decide)
  · subst h; exact absurd (types_apart hc hT.sto.blk) (by decide)
  · obtain ⟨cur', hc'⟩ := own_typed hT.sto.sch h
    exact absurd (types_apart hc hc') (by decide)
  · exact hsep k e.symm h
  · have := (hT.sto.rows.blk p hp).2
    unfold RowBlk at this
    rw [h] at this
    exact absurd (types_apart hc this) (by decide)

theorem made_close {w2 w3 w4 w5 : World} {base bt bs : Nat} {ks : List Int} {L M : List (Nat × List (Int × ByteArray))} {sv fv fv' rv nv : Value} {g' gg : Nat} {r : List (Int × ByteArray)} {o : Obj} {A : List (List (Int × ByteArray))}
    (hT : TableAt w3 base bt bs ks (L ++ [(g', r)]) sv fv') (hM : RowsAt w3 base rv M) (hb4 : Below w3.heap.size w3 w4) (hr4 : RowBlk w4 (w3.heap.size + 1, r)) (hbase : base ≤ w3.heap.size) (hLe : L.map Prod.snd = A) (hMe : M.map Prod.snd = A)
    (hsep : ∀ j, rv.ownBlock = some j → fv.ownBlock ≠ some j) (hrlt : ∀ j, rv.ownBlock = some j → j < w2.heap.size) (ho : fv'.ownBlock = fv.ownBlock ∨ ∃ k, fv'.ownBlock = some k ∧ w2.heap.size ≤ k)
    (hown : w5.ownsRow base 25 1 nv (M.length + 1) (M.map rval ++ [rval (w3.heap.size + 1, r)])) (hgrow : (w4.alloc o).grownBy w5 rv.ownBlock) (hat : rv.ownBlock = some gg ∨ gg = w4.heap.size + 1) (hnv : nv.ownBlock = some gg) :
    ∃ fv L M, TableAt w5 base bt bs ks L sv fv ∧ RowsAt w5 base nv M ∧ L.map Prod.snd = A ++ [r] ∧ M.map Prod.snd = A ++ [r] ∧ (∀ j, nv.ownBlock = some j → fv.ownBlock ≠ some j) := by
  have s4 := hb4.size
  have hsep' : ∀ j, rv.ownBlock = some j → fv'.ownBlock ≠ some j := fun j hj e => by
    rcases ho with h | ⟨k, h, hk⟩
    · rw [h] at e; exact hsep j hj e
    · rw [h] at e
      have := hrlt j hj
      simp only [Option.some.injEq] at e
      omega
  refine ⟨fv', L ++ [(g', r)], M ++ [(w3.heap.size + 1, r)], ?_, rows_push hM hb4 hr4 (by omega) hbase hown hgrow, by simp [hLe], by simp [hMe], fun j hj e => ?_⟩
  · have h4 : TableAt (w4.alloc o) base bt bs ks (L ++ [(g', r)]) sv fv' := (hT.below hb4).below ((Below.refl _ _).alloc (Nat.le_refl _) _)
    have m4 : RowsAt (w4.alloc o) base rv M := (hM.keepOn (fun j hj _ => hb4.block j hj)).keepOn (fun j hj _ => Below.heap_alloc _ _ _ hj)
    exact h4.afterGrow m4 hsep' hgrow
  · rw [hnv] at hj
    simp only [Option.some.injEq] at hj
    subst hj
    rcases hat with h | h
    · exact hsep' gg h e
    · have := (hT.sto.rows.own.lt gg e).2
      omega

/-- The rows of the first three hundred. -/
def firsts (R : List Raw) : List (List (Int × ByteArray)) := (R.take 300).map Raw.row

/-- What the statement's own maker of tables leaves. -/
def MadeAt (w w' : World) (bt : Nat) (v : Value) (R : List Raw) : Prop :=
  ∃ bs sv fv L M, TableAt w' (w.heap.size + 1) bt bs [1, 2, 3, 4] L sv fv ∧ RowsAt w' (w.heap.size + 1) v M ∧ L.map Prod.snd = firsts R ∧ M.map Prod.snd = firsts R ∧ Below w.heap.size w w'

set_option maxRecDepth 100000 in
set_option maxHeartbeats 1000000 in
theorem table_ok (la ua : Option Addr) (lc uc : Nat) (R : List Raw) (U : List Int) (w : World) (hl : Lent w la ua R U) :
    Calls Tryd.prog 10 #[.slice la R.length lc, .slice ua U.length uc] w fun e w' => ∃ bt v, e = .returned (.tuple #[.pointer (some ⟨bt, 0, none⟩), v, .bool true]) ∧ MadeAt w w' bt v R := by
  obtain ⟨i0, hi0, hz0, hz1, hz2⟩ := info_parts info_row
  have HL : Hid (Lent w la ua R U) := hl
  have rl := hl.rl
  have ul := hl.ul
  clear hl
  go_enter Tryd.func10, Tryd.ntmps10
  go_wp2_with fail
  refine (schema_ok _).mono ?_
  rintro e w0 ⟨rfl, rfl⟩
  go_wp2_with fail
  refine (new_ok w.heap.size 4 [1, 2, 3, 4] _ (kinds_new w [1, 2, 3, 4]) (by decide) (by decide) (by decide)).mono ?_
  rintro e w1 ⟨bt, bs, sv, rfl, h1, hb1⟩
  have s1 := hb1.size
  simp at s1 h1
  have B1 : Below w.heap.size w w1 := ((Below.refl _ _).alloc (Nat.le_refl _) _).trans (hb1.mono (by simp))
  have H1 : Hid (TableAt w1 (w.heap.size + 1) bt bs [1, 2, 3, 4] [] sv (.slice none 0 0)) := h1
  clear h1 hb1
  go_wp2_with fail
  go_loopw [9, 10] (fun rv i wr => ∃ k : Nat, k ≤ R.length ∧ k ≤ 300 ∧ i = .int .i64 k ∧ w.heap.size + 1 ≤ wr.heap.size ∧ Below w.heap.size w wr ∧ ∃ fv L M, TableAt wr (w.heap.size + 1) bt bs [1, 2, 3, 4] L sv fv ∧ RowsAt wr (w.heap.size + 1) rv M ∧
    L.map Prod.snd = (R.take k).map Raw.row ∧ M.map Prod.snd = (R.take k).map Raw.row ∧ (∀ j, rv.ownBlock = some j → fv.ownBlock ≠ some j)) (fun _ i _ => 300 - (intOf i).toNat)
  case atStart => exact ⟨0, Nat.zero_le _, by omega, rfl, s1, B1, _, [], [], H1.out, ⟨World.ownsRow_nil _ _ _ _, by simp⟩, rfl, rfl, fun j h => by cases h⟩
  case round =>
    obtain ⟨k, hk, hk3, rfl, hwz, hB, fv, L, M, hT, hM, hLe, hMe, hsep⟩ := hrel
    have HT : Hid (TableAt wr (w.heap.size + 1) bt bs [1, 2, 3, 4] L sv fv) := hT
    have HM : Hid (RowsAt wr (w.heap.size + 1) u9 M) := hM
    have HLE : Hid (L.map Prod.snd = (R.take k).map Raw.row) := hLe
    have HME : Hid (M.map Prod.snd = (R.take k).map Raw.row) := hMe
    have HSP : Hid (∀ j, u9.ownBlock = some j → fv.ownBlock ≠ some j) := hsep
    have hLl : L.length = k := by have := congrArg List.length hLe; simp at this; omega
    have hMl : M.length = k := by have := congrArg List.length hMe; simp at this; omega
    have HLL : Hid (L.length = k) := hLl
    have HML : Hid (M.length = k) := hMl
    clear hT hM hLe hMe hsep hLl hMl
    by_cases hlt : k < R.length ∧ k < 300
    · obtain ⟨hlt, hl3⟩ := hlt
      rcases HL.out.raws with h0 | ⟨lb, lo, rfl, hin⟩
      · rw [h0] at hlt; simp at hlt
      obtain ⟨c1, c2, c3, c4⟩ := hin k hlt
      have hlb : lb < w.heap.size := World.block_lt_of_cell? w ⟨lb, lo + k * 4, none⟩ c1
      have hxok := HL.out.rok R[k] (List.getElem_mem hlt)
      have HTK : Hid ((R.take (k + 1)).map Raw.row = (R.take k).map Raw.row ++ [R[k].row]) := by unfold Hid; rw [List.take_succ_eq_append_getElem hlt, List.map_append]; rfl
      generalize R[k] = x at *
      have f1 := hxok.2.2.1
      have f2 := hxok.2.2.2
      have e : ∀ o, wr.cell? ⟨lb, o, none⟩ = w.cell? ⟨lb, o, none⟩ := fun o => hB.cell (p := ⟨lb, o, none⟩) hlb
      have E : Hid (∀ o, wr.cell? ⟨lb, o, none⟩ = w.cell? ⟨lb, o, none⟩) := e
      have d1 := (e _).trans c1
      have d2 := (e _).trans c2
      have d3 := (e _).trans c3
      have d4 := (e _).trans c4
      have HC : Hid (w.cell? ⟨lb, lo + k * 4, none⟩ = some (.int .i64 x.n) ∧ w.cell? ⟨lb, lo + k * 4 + 1, none⟩ = some (.int .i64 x.bits) ∧ w.cell? ⟨lb, lo + k * 4 + 2, none⟩ = some (.string x.s) ∧ w.cell? ⟨lb, lo + k * 4 + 3, none⟩ = some (.int .i64 x.flag)) := ⟨c1, c2, c3, c4⟩
      have HIN : Hid (RawsIn w lb lo R) := hin
      clear c1 c2 c3 c4 e hin hxok
      go_wp2_with fail
      refine (row_ok x wr f1 f2).mono ?_
      rintro e w2 ⟨rfl, hr2, hb2⟩
      have s2 := hb2.size
      clear d1 d2 d3 d4
      have T2 := HT.out.below hb2
      go_wp2_with fail
      refine (tableAppend_ok (w.heap.size + 1) bt bs [1, 2, 3, 4] L sv fv x.row (wr.heap.size + 1) 4 w2 T2 (by omega) (by have := HLL.out; omega) hr2.rowIn (by decide) (by rw [(raw_fits x).2.2]; omega) (raw_fits x).1 (raw_fits x).2.1).mono ?_
      rintro e w3 ⟨rfl, fv', g', h3, hg3, hF3, ho3⟩
      have HO3 : Hid (fv'.ownBlock = fv.ownBlock ∨ ∃ k, fv'.ownBlock = some k ∧ w2.heap.size ≤ k) := ho3
      have s3 := hF3.size
      have B3 : Below w.heap.size w w3 := (hB.trans (hb2.mono (by omega))).trans ((hF3.tableBelow T2 (by omega)).mono (by omega))
      have M3 : Hid (RowsAt w3 (w.heap.size + 1) u9 M) := RowsAt.afterAppend (HM.out.keepOn (fun j hj _ => hb2.block j hj)) T2 HSP.out hF3
      have H3 : Hid (TableAt w3 (w.heap.size + 1) bt bs [1, 2, 3, 4] (L ++ [(g', x.row)]) sv fv') := h3
      have e : ∀ o, w3.cell? ⟨lb, o, none⟩ = w.cell? ⟨lb, o, none⟩ := fun o => B3.cell (p := ⟨lb, o, none⟩) hlb
      have d1 := (e _).trans HC.out.1
      have d2 := (e _).trans HC.out.2.1
      have d3 := (e _).trans HC.out.2.2.1
      have d4 := (e _).trans HC.out.2.2.2
      clear ho3 hF3 h3 T2 e hr2
      go_wp2_with fail
      refine (row_ok x w3 f1 f2).mono ?_
      rintro e w4 ⟨rfl, hr4, hb4⟩
      have s4 := hb4.size
      clear d1 d2 d3 d4
      have HO : Hid (w4.ownsRow (w.heap.size + 1) 25 1 u9 M.length (M.map rval)) := ownsRow_below M3.out.own hb4
      have hML : M.length ≤ 300 := by have := HML.out; omega
      have hrlt : Hid (∀ j, u9.ownBlock = some j → j < w2.heap.size) := fun j hj => by have := (HM.out.own.lt j hj).2; omega
      have hu : U.length ≤ k ∨ ∃ ub uo, ua = some ⟨ub, uo, none⟩ ∧ ∃ y, in64 y ∧ k < U.length ∧ w4.cell? ⟨ub, uo + k, none⟩ = some (.int .i64 y) ∧ ub < w.heap.size := by
        by_cases h : k < U.length
        · right
          rcases HL.out.ints with h0 | ⟨ub, uo, hua, hui⟩
          · rw [h0] at h; simp at h
          · have c := hui k h
            have hlt : ub < w.heap.size := World.block_lt_of_cell? w ⟨ub, uo + k, none⟩ c
            exact ⟨ub, uo, hua, U[k], HL.out.uok _ (List.getElem_mem h), h, (hb4.cell (p := ⟨ub, uo + k, none⟩) (by simp; omega)).trans ((B3.cell (p := ⟨ub, uo + k, none⟩) hlt).trans c), hlt⟩
        · left; omega
      rcases hu with hu | ⟨ub, uo, rfl, y, hy, hul, hcu, hub⟩
      · have hu' : ¬ ((k : Int) < (U.length : Int)) := by omega
        go_wp2_with (at_builtin; refine wpList_append_lies _ rfl _ _ _ rfl (w.heap.size + 1) 25 i0 _ 1 24 Tryd.underlying39 hi0 hz0 hz1 hz2 rfl (by omega) u9 M.length (M.map rval) (by rfl) (HO.out.alloc _) ⟨w4.heap.size, 0, none⟩ 1 1 [.slice (some ⟨w3.heap.size + 1, 0, none⟩) 4 4] (by rfl) (by rfl) (World.news_of_block (cs := #[.slice (some ⟨w3.heap.size + 1, 0, none⟩) 4 4]) (t := 25) (fr := (0, 0)) (heap_alloc_new w4 _)) (by simp [Value.oneCell']) (by omega) (by unfold maxLen; omega) (by omega) (by simp; omega) (w4.heap.size + 1) (by simp) ?_; intro gg cp w5 hown5 hgrow hat hlt5)
        go_roundw
        case rel =>
          refine ⟨k + 1, by omega, by omega, by go_num, by have := hgrow.size; simp at this; omega, Below.grown ((B3.trans (hb4.mono (by omega))).alloc (by omega) _) hgrow (by simp; omega) (fun j hj => by have := (M3.out.own.lt j hj).1; omega), ?_⟩
          rw [HTK.out]
          exact made_close H3.out M3.out hb4 hr4 (by omega) HLE.out HME.out HSP.out hrlt.out HO3.out hown5 hgrow hat rfl
        case measure => simp [intOf]; omega
      · have y1 := hy.1
        have y2 := hy.2
        have hul' : (k : Int) < (U.length : Int) := by omega
        go_wp2_with (first
          | (at_builtin; refine wpList_append_lies _ rfl _ _ _ rfl (w.heap.size + 1) 25 i0 _ 1 24 Tryd.underlying39 hi0 hz0 hz1 hz2 rfl (by omega) u9 M.length (M.map rval) (by rfl) (HO.out.alloc _) ⟨w4.heap.size, 0, none⟩ 1 1 [.slice (some ⟨w3.heap.size + 1, 0, none⟩) 4 4] (by rfl) (by rfl) (World.news_of_block (cs := #[.slice (some ⟨w3.heap.size + 1, 0, none⟩) 4 4]) (t := 25) (fr := (0, 0)) (heap_alloc_new w4 _)) (by simp [Value.oneCell']) (by omega) (by unfold maxLen; omega) (by omega) (by simp; omega) (w4.heap.size + 1) (by simp) ?_; intro gg cp w5 hown5 hgrow hat hlt5
             have hcu5 : w5.cell? ⟨ub, uo + k, none⟩ = some (.int .i64 y) := (hgrow.cell_far ⟨ub, uo + k, none⟩ (by simp; omega) (fun e => by have := (M3.out.own.lt ub e.symm).1; omega)).trans ((cell_alloc w4 _ ub _ (by omega)).trans hcu))
          | (go_at_call 18; refine (pick_any _ _ _ y1 y2 (by omega) (by omega)).mono ?_; rintro e w' ⟨rfl, rfl⟩)
          | (go_at_call 27; refine (flush_any _ _).mono ?_; rintro e w' ⟨rfl, rfl⟩)
          | (go_at_call 28; refine (merge_any _ _).mono ?_; rintro e w' ⟨rfl, rfl⟩))
        all_goals
          go_roundw
          case rel =>
            refine ⟨k + 1, by omega, by omega, by go_num, by have := hgrow.size; simp at this; omega, Below.grown ((B3.trans (hb4.mono (by omega))).alloc (by omega) _) hgrow (by simp; omega) (fun j hj => by have := (M3.out.own.lt j hj).1; omega), ?_⟩
            rw [HTK.out]
            exact made_close H3.out M3.out hb4 hr4 (by omega) HLE.out HME.out HSP.out hrlt.out HO3.out hown5 hgrow hat rfl
          case measure => simp [intOf]; omega
    · have e0 : R.take k = R.take 300 := by
        by_cases h : k < 300
        · rw [List.take_of_length_le (by omega), List.take_of_length_le (by omega)]
        · have : k = 300 := by omega
          rw [this]
      have HE0 : Hid (R.take k = R.take 300) := e0
      clear e0
      have hc : ¬ ((k : Int) < (R.length : Int)) ∨ ((k : Int) < (R.length : Int) ∧ ¬ ((k : Int) < 300)) := by omega
      rcases hc with hc | ⟨hc1, hc2⟩
      · go_wp2
        go_ret3
        exact ⟨bt, u9, rfl, bs, sv, fv, L, M, HT.out, HM.out, by unfold firsts; rw [HLE.out, HE0.out], by unfold firsts; rw [HME.out, HE0.out], hB⟩
      · go_wp2
        go_ret3
        exact ⟨bt, u9, rfl, bs, sv, fv, L, M, HT.out, HM.out, by unfold firsts; rw [HLE.out, HE0.out], by unfold firsts; rw [HME.out, HE0.out], hB⟩

end Go.Proofs.YtcconhgbefhdeaaDoor

namespace Go.Proofs.YtcconhgbefhdeaaDoor
open Go.ChangeShapes Go.WideShapes Go.ChangeAt Go.RowKit Go.Joins Go.Deep

section
variable {H : Type} {enc : TypeId × Value → H} {W : World}

theorem cells_raw : Tryd.prog.cellsOf 36 = 4 := by kernel_rfl

theorem addr_add (b o i : Nat) : (⟨b, o, none⟩ : Addr).add i = ⟨b, o + i, none⟩ := by unfold Addr.add; split <;> simp_all

set_option maxRecDepth 100000 in
/-- One raw row out of its cells. -/
theorem open_raw_cells {base : Nat} {spare : Nat → Bool} {held : Bool} {n : Nat} {cs : List Value} {x : DataW H × List MemPlace} (h : DataW.trod enc Tryd.prog W base spare held n 36 cs = some x) :
    ∃ r : Raw, r.ok ∧ cs = [.int .i64 r.n, .int .i64 r.bits, .string r.s, .int .i64 r.flag] := by
  obtain ⟨y0, y1, y2, y3, m, _, hl, h0, h1, h2, h3⟩ := trod_struct4 Tryd.underlying36 h
  rw [cells_raw] at hl
  match cs, hl with
  | [v0, v1, v2, v3], _ =>
    have k2 : Tryd.prog.cellsOf 2 = 1 := by kernel_rfl
    have k9 : Tryd.prog.cellsOf 9 = 1 := by kernel_rfl
    have k3 : Tryd.prog.cellsOf 3 = 1 := by kernel_rfl
    obtain ⟨a, e0, _, w0⟩ := DataW.trod_int Tryd.underlying2 h0
    obtain ⟨b, e1, _, w1⟩ := DataW.trod_int Tryd.underlying2 h1
    obtain ⟨s, e2, _, _⟩ := DataW.trod_string Tryd.underlying9 h2
    obtain ⟨f, e3, _, w3⟩ := DataW.trod_int Tryd.underlying3 h3
    simp [k2] at e0 e1
    simp [k9] at e2
    simp [k3] at e3
    exact ⟨⟨a, b, s, f⟩, ⟨bounds_i64 w0, bounds_i64 w1, bounds_i64 w3⟩, by rw [e0, e1, e2, e3]⟩

theorem open_raws {v : Value} {d : DataW H} {p : List MemPlace} {a0 : Option Addr} {len cap : Nat} (hv : v = .slice a0 len cap) (h : DataW.Trod enc Tryd.prog W 0 (fun _ => true) true 34 v d p) :
    ∃ R : List Raw, R.length = len ∧ (len : Int) ≤ 9223372036854775807 ∧ (∀ r ∈ R, r.ok) ∧ (R = [] ∨ ∃ b o, a0 = some ⟨b, o, none⟩ ∧ RawsIn W b o R) := by
  subst hv
  obtain ⟨fuel, hf⟩ := h
  rcases open_slice Tryd.underlying34 hf with ⟨hcs, _⟩ | ⟨a, l, c, m, n, D, Pl, hcs, _, hl, hm, hmm, _, hx⟩
  · simp [Value.cells] at hcs
    obtain ⟨rfl, rfl, rfl⟩ := hcs
    exact ⟨[], rfl, by omega, by simp, .inl rfl⟩
  · simp [Value.cells] at hcs
    obtain ⟨rfl, rfl, rfl⟩ := hcs
    have hlm : len ≤ m := by rw [hmm]; simpa using hl
    have hmax : (len : Int) ≤ 9223372036854775807 := by unfold maxLen at hm; omega
    have each : ∀ i, i < len → ∃ r : Raw, r.ok ∧ W.cell? (a.add (i * 4)) = some (.int .i64 r.n) ∧ W.cell? (a.add (i * 4 + 1)) = some (.int .i64 r.bits) ∧ W.cell? (a.add (i * 4 + 2)) = some (.string r.s) ∧ W.cell? (a.add (i * 4 + 3)) = some (.int .i64 r.flag) := by
      intro i hi
      obtain ⟨cs', h1, h2⟩ := hx i (by omega)
      rw [cells_raw] at h1
      obtain ⟨_, _, hcell⟩ := World.cells?_some h1
      obtain ⟨r, hr, rfl⟩ := open_raw_cells h2
      have e0 := hcell 0 (by omega)
      have e1 := hcell 1 (by omega)
      have e2 := hcell 2 (by omega)
      have e3 := hcell 3 (by omega)
      rw [add_add] at e0 e1 e2 e3
      exact ⟨r, hr, by simpa using e0, by simpa using e1, by simpa using e2, by simpa using e3⟩
    have hI : Inhabited Raw := ⟨⟨0, 0, .empty, 0⟩⟩
    obtain ⟨f, hf⟩ := choose_lt each
    refine ⟨(List.range len).map f, by simp, hmax, ?_, ?_⟩
    · intro r hr
      obtain ⟨i, hi, rfl⟩ := List.mem_map.1 hr
      exact (hf i (List.mem_range.1 hi)).1
    · by_cases h0 : len = 0
      · left; subst h0; rfl
      · right
        obtain ⟨b, off, spot⟩ := a
        have hspot : spot = none := by simpa [Addr.add] using World.cell?_spot (hf 0 (by omega)).2.1
        subst hspot
        refine ⟨b, off, rfl, fun i hi => ?_⟩
        have hi' : i < len := by simpa using hi
        have := (hf i hi').2
        simp only [addr_add] at this
        simpa [Nat.add_assoc] using this

theorem open_turns {v : Value} {d : DataW H} {p : List MemPlace} {a0 : Option Addr} {len cap : Nat} (hv : v = .slice a0 len cap) (h : DataW.Trod enc Tryd.prog W 0 (fun _ => true) true 24 v d p) :
    ∃ U : List Int, U.length = len ∧ (len : Int) ≤ 9223372036854775807 ∧ (∀ u ∈ U, in64 u) ∧ (U = [] ∨ ∃ b o, a0 = some ⟨b, o, none⟩ ∧ IntsIn W b o U) := by
  subst hv
  obtain ⟨fuel, hf⟩ := h
  rcases open_ints Tryd.underlying24 Tryd.underlying3 (by kernel_rfl) hf with ⟨hcs, _⟩ | ⟨a, l, c, zs, hcs, _, hl, hm, hz, _, hcell, hwz⟩
  · simp [Value.cells] at hcs
    obtain ⟨rfl, rfl, rfl⟩ := hcs
    exact ⟨[], rfl, by omega, by simp, .inl rfl⟩
  · simp [Value.cells] at hcs
    obtain ⟨rfl, rfl, rfl⟩ := hcs
    have hzl : zs.length = cap := by simpa using hz
    have hmax : (len : Int) ≤ 9223372036854775807 := by unfold maxLen at hm; omega
    refine ⟨zs.take len, by simp; omega, hmax, fun u hu => bounds_i64 (hwz u (List.mem_of_mem_take hu)), ?_⟩
    by_cases h0 : len = 0
    · left; subst h0; simp
    · right
      obtain ⟨b, off, spot⟩ := a
      have hspot : spot = none := by simpa [Addr.add] using World.cell?_spot (hcell 0 (by omega))
      subst hspot
      refine ⟨b, off, rfl, fun i hi => ?_⟩
      have hi' : i < len := by simp at hi; omega
      have := hcell i (by omega)
      simp [List.getD, show i < zs.length by omega] at this
      rw [addr_add] at this
      simpa using this

end

theorem own : ownKnob Tryd.prog.godebug = none := by kernel_rfl
theorem laidOut : laidOutB Tryd.prog = true := by kernel_rfl

end Go.Proofs.YtcconhgbefhdeaaDoor

namespace Go.Proofs.YtcconhgbefhdeaaDoor
open Go.ChangeShapes Go.WideShapes Go.ChangeAt Go.RowKit Go.Joins Go.Deep

section
variable {H : Type} {enc : TypeId × Value → H} {W : World}

theorem bulk_pos (d : DataW H) : 1 ≤ Rows.uptoBulk d := by
  cases d with
  | lit l => cases l <;> simp [Rows.uptoBulk]
  | _ => simp [Rows.uptoBulk]
theorem bulk_length (l : List (DataW H)) : l.length ≤ Rows.uptoBulkAll l := by
  induction l with
  | nil => simp
  | cons d r ih => have := bulk_pos d; simp [Rows.uptoBulkAll]; omega
theorem bulk_mem (l : List (DataW H)) (d : DataW H) (h : d ∈ l) : Rows.uptoBulk d ≤ Rows.uptoBulkAll l := by
  induction l with
  | nil => cases h
  | cons e r ih =>
    simp only [Rows.uptoBulkAll]
    rcases List.mem_cons.1 h with rfl | h
    · omega
    · have := ih h; omega
theorem bulk_range (n : Nat) (D : Nat → DataW H) (s : List (DataW H)) : n ≤ Rows.uptoBulk (.slice ((List.range n).map D) s) := by
  have := bulk_length ((List.range n).map D)
  simp only [List.length_map, List.length_range] at this
  simp only [Rows.uptoBulk]
  omega

theorem cells_value : Tryd.prog.cellsOf 30 = 2 := by kernel_rfl
theorem cells_test : Tryd.prog.cellsOf 32 = 4 := by kernel_rfl
theorem cells_op : Tryd.prog.cellsOf 28 = 8 := by kernel_rfl

set_option maxRecDepth 100000 in
/-- One value out of its cells. -/
theorem open_value {base : Nat} {spare : Nat → Bool} {held : Bool} {n : Nat} {cs : List Value} {x : DataW H × List MemPlace} (h : DataW.trod enc Tryd.prog W base spare held n 30 cs = some x) :
    ∃ a s, in64 a ∧ cs = [.int .i64 a, .string s] := by
  obtain ⟨y0, y1, m, _, hl, h0, h1⟩ := trod_struct2 Tryd.underlying30 h
  rw [cells_value] at hl
  match cs, hl with
  | [v0, v1], _ =>
    have k2 : Tryd.prog.cellsOf 2 = 1 := by kernel_rfl
    have k9 : Tryd.prog.cellsOf 9 = 1 := by kernel_rfl
    obtain ⟨a, e0, _, w0⟩ := DataW.trod_int Tryd.underlying2 h0
    obtain ⟨s, e1, _, _⟩ := DataW.trod_string Tryd.underlying9 h1
    simp [k2] at e0
    simp [k9] at e1
    exact ⟨a, s, bounds_i64 w0, by rw [e0, e1]⟩

set_option maxRecDepth 100000 in
/-- One test out of its cells. -/
theorem open_test {base : Nat} {spare : Nat → Bool} {held : Bool} {n : Nat} {cs : List Value} {x : DataW H × List MemPlace} (h : DataW.trod enc Tryd.prog W base spare held n 32 cs = some x) :
    ∃ t : Tst, in64 t.n ∧ cs = [.int .i64 t.dO, .int .i64 t.col, .int .i64 t.n, .string t.s] := by
  obtain ⟨y0, y1, y2, m, _, hl, h0, h1, h2⟩ := trod_struct3 Tryd.underlying32 h
  rw [cells_test] at hl
  match cs, hl with
  | [v0, v1, v2, v3], _ =>
    have k3 : Tryd.prog.cellsOf 3 = 1 := by kernel_rfl
    obtain ⟨a, e0, _, w0⟩ := DataW.trod_int Tryd.underlying3 h0
    obtain ⟨b, e1, _, w1⟩ := DataW.trod_int Tryd.underlying3 h1
    obtain ⟨c, s, hc, e2⟩ := open_value h2
    simp [k3] at e0 e1
    simp [cells_value] at e2
    exact ⟨⟨a, b, c, s⟩, hc, by rw [e0, e1, e2.1, e2.2]⟩

/-- A row out of its slice. -/
theorem open_row {fuel : Nat} {cs : List Value} {x : DataW H × List MemPlace} (h : DataW.trod enc Tryd.prog W 0 (fun _ => true) true fuel 25 cs = some x) :
    ∃ sa cap, ∃ r : List (Int × ByteArray), cs = [.slice sa r.length cap] ∧ RowA W sa r ∧ RowRg r ∧ r.length ≤ Rows.uptoBulk x.1 := by
  rcases open_slice Tryd.underlying25 h with ⟨hcs, _⟩ | ⟨a, len, cap, m, n, D, Pl, hcs, _, hl, hm, hmm, hxd, hx⟩
  · exact ⟨none, 0, [], hcs, .inl rfl, fun i hi => absurd hi (by simp), by simp⟩
  · have hlm : len ≤ m := by rw [hmm]; simpa using hl
    have each : ∀ i, i < len → ∃ p : Int × ByteArray, in64 p.1 ∧ W.cell? (a.add (i * 2)) = some (.int .i64 p.1) ∧ W.cell? (a.add (i * 2 + 1)) = some (.string p.2) := by
      intro i hi
      obtain ⟨cs', h1, h2⟩ := hx i (by omega)
      rw [cells_value] at h1
      obtain ⟨_, _, hcell⟩ := World.cells?_some h1
      obtain ⟨z, s, hz, rfl⟩ := open_value h2
      have e0 := hcell 0 (by omega)
      have e1 := hcell 1 (by omega)
      rw [add_add] at e0 e1
      exact ⟨(z, s), hz, by simpa using e0, by simpa using e1⟩
    have hI : Inhabited (Int × ByteArray) := ⟨(0, .empty)⟩
    obtain ⟨f, hf⟩ := choose_lt each
    refine ⟨some a, cap, (List.range len).map f, by simpa using hcs, ?_, fun i hi => ?_, by rw [hxd]; simpa using bulk_range len D _⟩
    · by_cases h0 : len = 0
      · left; subst h0; rfl
      · right
        obtain ⟨b, off, spot⟩ := a
        have hspot : spot = none := by simpa [Addr.add] using World.cell?_spot (hf 0 (by omega)).2.1
        subst hspot
        refine ⟨b, off, rfl, fun i hi => ?_⟩
        have hi' : i < len := by simpa using hi
        have := (hf i hi').2
        simp only [addr_add] at this
        simpa [Nat.add_assoc] using this
    · have hi' : i < len := by simpa using hi
      simpa [in64] using (hf i hi').1

/-- Tests out of their slice. -/
theorem open_tests {fuel : Nat} {cs : List Value} {x : DataW H × List MemPlace} (h : DataW.trod enc Tryd.prog W 0 (fun _ => true) true fuel 26 cs = some x) :
    ∃ sa cap, ∃ T : List Tst, cs = [.slice sa T.length cap] ∧ TestsA W sa T ∧ TstRg T ∧ T.length ≤ Rows.uptoBulk x.1 := by
  rcases open_slice Tryd.underlying26 h with ⟨hcs, _⟩ | ⟨a, len, cap, m, n, D, Pl, hcs, _, hl, hm, hmm, hxd, hx⟩
  · exact ⟨none, 0, [], hcs, .inl rfl, fun i hi => absurd hi (by simp), by simp⟩
  · have hlm : len ≤ m := by rw [hmm]; simpa using hl
    have each : ∀ i, i < len → ∃ t : Tst, in64 t.n ∧ W.cell? (a.add (i * 4)) = some (.int .i64 t.dO) ∧ W.cell? (a.add (i * 4 + 1)) = some (.int .i64 t.col) ∧ W.cell? (a.add (i * 4 + 2)) = some (.int .i64 t.n) ∧ W.cell? (a.add (i * 4 + 3)) = some (.string t.s) := by
      intro i hi
      obtain ⟨cs', h1, h2⟩ := hx i (by omega)
      rw [cells_test] at h1
      obtain ⟨_, _, hcell⟩ := World.cells?_some h1
      obtain ⟨t, ht, rfl⟩ := open_test h2
      have e0 := hcell 0 (by omega)
      have e1 := hcell 1 (by omega)
      have e2 := hcell 2 (by omega)
      have e3 := hcell 3 (by omega)
      rw [add_add] at e0 e1 e2 e3
      exact ⟨t, ht, by simpa using e0, by simpa using e1, by simpa using e2, by simpa using e3⟩
    have hI : Inhabited Tst := ⟨⟨0, 0, 0, .empty⟩⟩
    obtain ⟨f, hf⟩ := choose_lt each
    refine ⟨some a, cap, (List.range len).map f, by simpa using hcs, ?_, fun i hi => ?_, by rw [hxd]; simpa using bulk_range len D _⟩
    · by_cases h0 : len = 0
      · left; subst h0; rfl
      · right
        obtain ⟨b, off, spot⟩ := a
        have hspot : spot = none := by simpa [Addr.add] using World.cell?_spot (hf 0 (by omega)).2.1
        subst hspot
        refine ⟨b, off, rfl, fun i hi => ?_⟩
        have hi' : i < len := by simpa using hi
        have := (hf i hi').2
        simp only [addr_add] at this
        simpa [Nat.add_assoc] using this
    · have hi' : i < len := by simpa using hi
      simpa [in64] using (hf i hi').1

/-- A schema out of its slice. -/
theorem open_kinds {fuel : Nat} {cs : List Value} {x : DataW H × List MemPlace} (h : DataW.trod enc Tryd.prog W 0 (fun _ => true) true fuel 24 cs = some x) :
    ∃ sa cap, ∃ ks : List Int, cs = [.slice sa ks.length cap] ∧ KindsA W sa ks ∧ ks.length ≤ Rows.uptoBulk x.1 := by
  rcases open_ints Tryd.underlying24 Tryd.underlying3 (by kernel_rfl) h with ⟨hcs, _⟩ | ⟨a, len, cap, zs, hcs, _, hl, hm, hz, hxd, hcell, hwz⟩
  · exact ⟨none, 0, [], hcs, .inl rfl, by simp⟩
  · have hzl : zs.length = cap := by simpa using hz
    refine ⟨some a, cap, zs.take len, by simpa [show min len zs.length = len by omega] using hcs, ?_, ?_⟩
    rotate_left
    · have hb := bulk_length (H := H) (lits .i64 (zs.take len))
      rw [hxd]
      simp only [Rows.uptoBulk]
      simp only [lits, List.length_map] at hb ⊢
      omega
    by_cases h0 : len = 0
    · left; subst h0; simp
    · right
      obtain ⟨b, off, spot⟩ := a
      have hspot : spot = none := by simpa [Addr.add] using World.cell?_spot (hcell 0 (by omega))
      subst hspot
      refine ⟨b, off, rfl, fun i hi => ?_⟩
      have hi' : i < len := by simp at hi; omega
      have := hcell i (by omega)
      simp [List.getD, show i < zs.length by omega] at this
      rw [addr_add] at this
      simpa using this

set_option maxRecDepth 100000 in
/-- One step out of its cells. -/
theorem open_op {fuel : Nat} {cs : List Value} {x : DataW H × List MemPlace} (h : DataW.trod enc Tryd.prog W 0 (fun _ => true) true fuel 28 cs = some x) :
    ∃ o : OpM, cs = o.cells.toList ∧ KindsA W o.sa o.ks ∧ RowA W o.ra o.r ∧ TestsA W o.ta o.T ∧ RowRg o.r ∧ TstRg o.T ∧ in64 o.kind ∧ in64 o.at' ∧ in64 o.many ∧ o.ks.length ≤ Rows.uptoBulk x.1 ∧ o.r.length ≤ Rows.uptoBulk x.1 ∧ o.T.length ≤ Rows.uptoBulk x.1 := by
  obtain ⟨xs, n, _, rfl, hl, hlen, hf⟩ := DataW.trod_struct Tryd.underlying28 h
  rw [cells_op] at hl
  match xs, hlen, cs, hl with
  | [y0, y1, y2, y3, y4, y5, y6, y7], _, [v0, v1, v2, v3, v4, v5, v6, v7], _ =>
    have k3 : Tryd.prog.cellsOf 3 = 1 := by kernel_rfl
    have k24 : Tryd.prog.cellsOf 24 = 1 := by kernel_rfl
    have k25 : Tryd.prog.cellsOf 25 = 1 := by kernel_rfl
    have k26 : Tryd.prog.cellsOf 26 = 1 := by kernel_rfl
    obtain ⟨a0, e0, _, w0⟩ := DataW.trod_int Tryd.underlying3 (hf 0 _ rfl)
    obtain ⟨a1, e1, _, w1⟩ := DataW.trod_int Tryd.underlying3 (hf 1 _ rfl)
    obtain ⟨a2, e2, _, _⟩ := DataW.trod_int Tryd.underlying3 (hf 2 _ rfl)
    obtain ⟨a3, e3, _, _⟩ := DataW.trod_int Tryd.underlying3 (hf 3 _ rfl)
    obtain ⟨sa, sc, ks, e4, hks, u4⟩ := open_kinds (hf 4 _ rfl)
    obtain ⟨ra, rc, r, e5, hr, hrg, u5⟩ := open_row (hf 5 _ rfl)
    obtain ⟨ta, tc, T, e6, hT, htg, u6⟩ := open_tests (hf 6 _ rfl)
    obtain ⟨a7, e7, _, w7⟩ := DataW.trod_int Tryd.underlying3 (hf 7 _ rfl)
    have hall : ∀ d ∈ [y0.1, y1.1, y2.1, y3.1, y4.1, y5.1, y6.1, y7.1], Rows.uptoBulk d ≤ Rows.uptoBulk (.agg [y0.1, y1.1, y2.1, y3.1, y4.1, y5.1, y6.1, y7.1]) := fun d hd => by
      have := bulk_mem _ d hd
      simp only [Rows.uptoBulk]
      omega
    have m4 : Rows.uptoBulk y4.1 ≤ _ := hall y4.1 (by simp)
    have m5 : Rows.uptoBulk y5.1 ≤ _ := hall y5.1 (by simp)
    have m6 : Rows.uptoBulk y6.1 ≤ _ := hall y6.1 (by simp)
    simp [k3] at e0 e1 e2 e3 e7
    simp [k24] at e4
    simp [k25] at e5
    simp [k26] at e6
    exact ⟨⟨a0, a1, a2, a3, a7, sa, sc, ks, ra, rc, r, ta, tc, T⟩, by rw [e0, e1, e2, e3, e4, e5, e6, e7]; rfl, hks, hr, hT, hrg, htg, bounds_i64 w0, bounds_i64 w1, bounds_i64 w7, Nat.le_trans u4 m4, Nat.le_trans u5 m5, Nat.le_trans u6 m6⟩

/-- The script out of its slice. -/
theorem open_ops {v : Value} {d : DataW H} {p : List MemPlace} {a0 : Option Addr} {len cap : Nat} (hv : v = .slice a0 len cap) (h : DataW.Trod enc Tryd.prog W 0 (fun _ => true) true 22 v d p) (hbulk : Rows.uptoBulk d ≤ 1048576) :
    ∃ ops : List OpM, ops.length = len ∧ OpsA W a0 ops := by
  subst hv
  obtain ⟨fuel, hf⟩ := h
  rcases open_slice Tryd.underlying22 hf with ⟨hcs, _⟩ | ⟨a, l, c, m, n, D, Pl, hcs, _, hl, hm, hmm, hxd, hx⟩
  · simp [Value.cells] at hcs
    obtain ⟨rfl, rfl, rfl⟩ := hcs
    exact ⟨[], rfl, .inl rfl, by simp, by simp⟩
  · simp [Value.cells] at hcs
    obtain ⟨rfl, rfl, rfl⟩ := hcs
    have hlm : len ≤ m := by rw [hmm]; simpa using hl
    have hd : d = .slice ((List.range len).map D) ((List.range (m - len)).map fun j => D (len + j)) := congrArg Prod.fst hxd
    have hlen : len ≤ 1048576 := by
      have := bulk_range len D ((List.range (m - len)).map fun j => D (len + j))
      rw [← hd] at this
      omega
    have each : ∀ i, i < len → ∃ o : OpM, OpOK W o ∧ ∀ j u, o.cells[j]? = some u → W.cell? (a.add (i * 8 + j)) = some u := by
      intro i hi
      obtain ⟨cs', h1, h2⟩ := hx i (by omega)
      rw [cells_op] at h1
      obtain ⟨_, _, hcell⟩ := World.cells?_some h1
      obtain ⟨o, rfl, k1, k2, k3, k4, k5, k6, k7, k8, u1, u2, u3⟩ := open_op h2
      have hDi : Rows.uptoBulk (D i) ≤ 1048576 := by
        have hmem : D i ∈ (List.range len).map D := List.mem_map_of_mem (List.mem_range.2 hi)
        have h3 := bulk_mem _ _ hmem
        rw [hd] at hbulk
        simp only [Rows.uptoBulk] at hbulk
        omega
      have u1' : o.ks.length ≤ 1048576 := Nat.le_trans u1 hDi
      have u2' : o.r.length ≤ 1048576 := Nat.le_trans u2 hDi
      have u3' : o.T.length ≤ 1048576 := Nat.le_trans u3 hDi
      refine ⟨o, ⟨k1, k2, k3, by omega, by omega, by omega, k4, k5, k6, k7, k8⟩, fun j u hj => ?_⟩
      have hj8 : j < 8 := (Array.getElem?_eq_some_iff.1 hj).1
      have e := hcell j hj8
      rw [add_add] at e
      rw [e, ← hj]
      simp
    have hI : Inhabited OpM := ⟨opA⟩
    obtain ⟨f, hf'⟩ := choose_lt each
    refine ⟨(List.range len).map f, by simp, ?_, fun o ho => ?_, by simp; omega⟩
    · by_cases h0 : len = 0
      · left; subst h0; rfl
      · right
        obtain ⟨b, off, spot⟩ := a
        have hspot : spot = none := by simpa [Addr.add] using World.cell?_spot ((hf' 0 (by omega)).2 0 _ rfl)
        subst hspot
        refine ⟨b, off, rfl, fun k hk j u hj => ?_⟩
        have hk' : k < len := by simpa using hk
        have := (hf' k hk').2 j u (by simpa using hj)
        rw [addr_add] at this
        rw [Nat.add_assoc]
        exact this
    · obtain ⟨i, hi, rfl⟩ := List.mem_map.1 ho
      exact (hf' i (List.mem_range.1 hi)).1

end

end Go.Proofs.YtcconhgbefhdeaaDoor

namespace Go.Proofs.YtcconhgbefhdeaaDoor
open Go.ChangeShapes Go.WideShapes Go.RowKit

theorem et_at : Tryd.prog.globalNamed "errors.errorType" = some 0 := by kernel_rfl
theorem rt_at : (Tryd.prog.cutTypes.find? (·.1 == "internal/reflectlite.rtype")).map (·.2) = some 154 := by kernel_rfl
theorem oneRow : ((List.range Tryd.prog.types.size).filter fun t => Tryd.prog.rowNamed t [101, 114, 114, 111, 114]) = [44] := by kernel_rfl

/-- What the laid variable gives. -/
theorem err_of_laid {W : World} (h : laidMetH Tryd.prog Rows.scansUptoRow.laid W) : ErrType W := by
  have h' : laidMet Tryd.prog [] W ∧ handlesMet Tryd.prog Rows.scansUptoRow.laid W := h
  obtain ⟨name, u, ty, e1, e2, e3, e4, e5⟩ := h'.2 _ (List.mem_singleton.2 rfl)
  have en : name = [101, 114, 114, 111, 114] := (Option.some.inj e1).symm
  subst en
  obtain rfl := Option.some.inj (rt_at.symm.trans e2)
  have hm : ty ∈ (List.range Tryd.prog.types.size).filter fun t => Tryd.prog.rowNamed t [101, 114, 114, 111, 114] := List.mem_filter.2 ⟨List.mem_range.2 e3, e4⟩
  rw [oneRow] at hm
  obtain rfl := List.mem_singleton.1 hm
  have hh : typeHandle Tryd.prog 44 = .pointer (some ⟨2, 44, none⟩) := by kernel_rfl
  rw [hh] at e5
  unfold ErrType
  simpa using World.var?_cell et_at e5 0

end Go.Proofs.YtcconhgbefhdeaaDoor

namespace Go.Proofs.YtcconhgbefhdeaaDoor
open Go.ChangeShapes Go.WideShapes Go.ChangeAt Go.RowKit Go.Joins

/-- The door's own heap meets the condition. -/
theorem scans_met (os : Os) (args : Array Value) : laidMetH Tryd.prog Rows.scansUptoRow.laid ((World.doorLaid Tryd.prog 400 os).forCall (fun _ _ => 0) ⟨#[], args, []⟩).memory :=
  laidMetH_of_parts (laidMet_nil _ _) (by kernel_rfl)

set_option maxRecDepth 100000 in
theorem scans_witness (os : Os) (H : Type) (enc : TypeId × Value → H) : ∃ (w : World) (tape : Tape) (i : Input), w.os = os ∧ (w.forCall tape i).Shaped Tryd.checked.prog ∧ i.vars = [] ∧ Input.okWide Tryd.checked.prog (w.forCall tape i) .any w.heap.size 3 i ∧
    (Rows.OpenSpec.upto Rows.scansSpec).preRow enc Tryd.checked.prog Tryd.f3 [] false Rows.scansUptoRow.laid (w.forCall tape i).memory i.args ∧ ({} : Assume).holds Tryd.checked.prog (lone (Frame.enter Tryd.checked.prog 3 i.args .normal) [] (w.forCall tape i)) :=
  have hok : Input.okWideB Tryd.checked.prog ((World.doorLaid Tryd.prog 400 os).forCall (fun _ _ => 0) ⟨#[], #[.slice none 0 0], []⟩) 3 ⟨#[], #[.slice none 0 0], []⟩ = true := by kernel_rfl
  have hx : DataW.whole enc Tryd.checked.prog ((World.doorLaid Tryd.prog 400 os).forCall (fun _ _ => 0) ⟨#[], #[.slice none 0 0], []⟩).memory Tryd.f3.params.toList (Rows.OpenSpec.upto Rows.scansSpec).vars false (#[Value.slice none 0 0] : Array Value).toList 8 = some ([.nil], [], []) := by kernel_rfl
  ⟨World.doorLaid Tryd.prog 400 os, fun _ _ => 0, ⟨#[], #[.slice none 0 0], []⟩, rfl, World.shaped_of_RefB (by kernel_rfl) (by kernel_rfl), (Input.okWide_of_okWideB (base := 0) hok).1, (Input.okWide_of_okWideB hok).2,
    ⟨⟨(OpenSpec.pre_some (s := Rows.OpenSpec.upto Rows.scansSpec) (k := Rows.uptoSmall) rfl [] false _ _).2 ⟨[.nil], [], [], DataW.Whole_of_whole hx, rfl, by kernel_rfl⟩, scans_met os _⟩, sizedMet_of_sizedB (fuel := 8) (by kernel_rfl)⟩, by
    simp only [Assume.holds]
    exact ⟨by simp, by simp, fun _ => Modest.zero, by simp, by simp⟩⟩

set_option maxRecDepth 100000 in
theorem scans_lifted (os : Os) (started : os.Started) (H : Type) (enc : TypeId × Value → H) (F : Stop.Interp) :
    ReturnsInHanded {} Tryd.checked os 3 .any ((Rows.OpenSpec.upto Rows.scansSpec).preRow enc Tryd.checked.prog Tryd.f3 [] false Rows.scansUptoRow.laid)
      (((Rows.OpenSpec.upto Rows.scansSpec).at F).post enc Tryd.checked.prog Tryd.f3 false true false false) := by
  refine returnsInHanded_of_row own started (by kernel_rfl) Tryd.func3 (scans_witness os H enc) ?_
  intro W base args ds gs before hval0 hW _ hk _ hL _ _
  have hval : ∀ (j : Nat) t v, Tryd.f3.params[j]? = some t → args[j]? = some v → Value.okWide Tryd.prog W .any base t v := hval0
  have hW' := hW
  obtain ⟨p, q, hA0, hV, rfl, hfz, hnd⟩ := hW
  have hA : DataW.TrodAll enc Tryd.prog W 0 (fun _ => true) true Tryd.f3.params.toList args.toList ds p := hA0
  rw [Tryd.params3] at hA hval
  obtain ⟨v0, d0, rfl, rfl, h0⟩ := trodAll_one hA
  obtain ⟨rfl, rfl⟩ := trodVars_none hV
  obtain ⟨a0, len0, cap0, rfl⟩ := okWide_slice Tryd.underlying22 (hval 0 22 v0 rfl rfl)
  have lt0 : ∀ x ∈ p, x.block < W.heap.size := by obtain ⟨m, hm⟩ := h0; exact DataW.trod_lt m _ _ _ hm
  have hbulk : Rows.uptoBulk d0 ≤ 1048576 := by
    have h1 := hk Rows.uptoSmall rfl
    have h2 : Rows.uptoBulkAll ([d0] ++ []) ≤ 1048576 := of_decide_eq_true h1
    simpa [Rows.uptoBulkAll] using h2
  obtain ⟨ops, rfl, hops⟩ := open_ops rfl h0 hbulk
  clear hA0 hval0
  refine (scans_all a0 cap0 ops W (err_of_laid hL) hops).mono fun e W' ⟨he, hF⟩ => ?_
  subst he
  have bel : Below W.heap.size W W' := hF.below (Nat.le_refl _) (fun _ _ h => h)
  exact ⟨_, rfl, _, _, _, [], _, [], hW', trodAll_mk1 (shut_bool Tryd.underlying4 _),
    trodAll_mk1 (Below.trod laidOut (by kernel_rfl) (of_decide_eq_true (by kernel_rfl)) h0 bel lt0), rfl, bel.frame _, fun h => by cases h⟩

theorem scans_holds : Rows.ScansUptoSaid :=
  OpenClaim.holds_of_cond 3 Tryd.f3 rfl rfl rfl rfl rfl rfl rfl ⟨rfl, rfl, rfl, rfl, rfl⟩ rfl rfl rfl rfl rfl (by kernel_rfl) Tryd.func3 (by kernel_rfl)
    (of_decide_eq_true (by kernel_rfl)) (by unfold Func.isWrapper; first | (rw [if_pos (by decide +kernel)]; kernel_rfl) | (rw [if_neg (by decide +kernel)]; exact ⟨rfl, rfl⟩))
    (fun os started H enc _ F => by rw [OpenClaim.pre_eq_preRow]; exact scans_lifted os started H enc F)

end Go.Proofs.YtcconhgbefhdeaaDoor
