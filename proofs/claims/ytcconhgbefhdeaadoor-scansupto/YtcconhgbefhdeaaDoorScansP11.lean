import Derived.Test.YtcconhgbefhdeaaDoorScansP06
import Derived.Test.YtcconhgbefhdeaaDoorScansP10
import Derived.Test.YtcconhgbefhdeaaDoorScansP05
import Derived.Test.YtcconhgbefhdeaaDoorScansP02
import Derived.Lib.SliceRun
namespace Go.Proofs.YtcconhgbefhdeaaDoor
open Go.RowKit

set_option maxRecDepth 100000 in
set_option maxHeartbeats 400000 in
theorem storeScan_bad (base bs : Nat) (ks : List Int) (L : List (Nat × List (Int × ByteArray))) (sv fv : Value) (tcap : Nat) (ta : Option Addr) (T : List Tst) (w : World) (h : StoreAt w base bs ks L sv fv) (hk : 0 < ks.length) (hT : TestsAt w ta T) (hf : (testFault ks T).1 ≠ 0) :
    Calls Tryd.prog 29 #[.pointer (some ⟨bs, 0, none⟩), .slice ta T.length tcap] w fun e w' => ∃ eb, e = .returned (.tuple #[.slice none 0 0, .iface 150 (.pointer (some ⟨eb, 0, none⟩))]) ∧ InnerErr w' (.iface 150 (.pointer (some ⟨eb, 0, none⟩))) 3 (testFault ks T).2 ∧ Below w.heap.size w w' := by
  obtain ⟨sc, scap, rfl, hkin, _, _, _⟩ := h.kinds hk
  have c0 : w.cell? ⟨bs, 0, none⟩ = some (.slice (some ⟨sc, 0, none⟩) ks.length scap) := by rw [cell_of_row _ _ _ _ _ _ h.blk]; rfl
  go_enter Tryd.func29, Tryd.ntmps29
  go_wp2_with fail
  refine (sieveNew_bad sc scap tcap ta ks T w hk hkin hT hf).mono ?_
  rintro e w1 ⟨eb, rfl, hin1, hb1⟩
  clear c0 hf
  go_wp2
  go_ret2
  exact ⟨eb, rfl, hin1.below ((Below.refl _ _).alloc (Nat.le_refl _) _), hb1.alloc hb1.size _⟩

set_option maxRecDepth 100000 in
set_option maxHeartbeats 400000 in
theorem scan_bad (base bt bs : Nat) (ks : List Int) (L : List (Nat × List (Int × ByteArray))) (sv fv : Value) (tcap : Nat) (ta : Option Addr) (T : List Tst) (w : World) (hgt : ErrType w) (h : TableAt w base bt bs ks L sv fv) (hk : 0 < ks.length) (hT : TestsAt w ta T) (hf : (testFault ks T).1 ≠ 0) :
    Calls Tryd.prog 12 #[.pointer (some ⟨bt, 0, none⟩), .slice ta T.length tcap] w fun e w' => ∃ fb, e = .returned (.tuple #[.slice none 0 0, .iface 100 (.pointer (some ⟨fb, 0, none⟩))]) ∧ FaultAt w' (.iface 100 (.pointer (some ⟨fb, 0, none⟩))) 3 (testFault ks T).2 ∧ Below w.heap.size w w' := by
  have c0 : w.cell? ⟨bt, 0, none⟩ = some (.pointer (some ⟨bs, 0, none⟩)) := by rw [cell_of_row _ _ _ _ _ _ h.tab]; rfl
  go_enter Tryd.func12, Tryd.ntmps12
  go_wp2_with fail
  refine (storeScan_bad base bs ks L sv fv tcap ta T w h.sto hk hT hf).mono ?_
  rintro e w1 ⟨eb, rfl, hin1, hb1⟩
  clear c0 hf
  go_wp2_with fail
  refine (faultIn_err _ _ _ _ (hgt.below hb1) hin1).mono ?_
  rintro e w2 ⟨fb, rfl, hfa, hb2⟩
  go_wp2
  go_ret2
  exact ⟨fb, rfl, hfa, hb1.trans (hb2.mono hb1.size)⟩

end Go.Proofs.YtcconhgbefhdeaaDoor

namespace Go.Proofs.YtcconhgbefhdeaaDoor
open Go.RowKit

/-- All blocks that were there, but for some, are as they were. -/
structure FrS (S : Nat → Prop) (w w' : World) : Prop where
  os : w'.os = w.os
  tape : w'.tape = w.tape
  output : w'.output = w.output
  size : w.heap.size ≤ w'.heap.size
  block : ∀ k, k < w.heap.size → ¬ S k → w'.heap[k]? = w.heap[k]?

theorem FrS.refl (S : Nat → Prop) (w : World) : FrS S w w := ⟨rfl, rfl, rfl, Nat.le_refl _, fun _ _ _ => rfl⟩
theorem FrS.trans {S T : Nat → Prop} {a b c : World} (h : FrS S a b) (k : FrS T b c) (hT : ∀ i, T i → S i ∨ a.heap.size ≤ i) : FrS S a c :=
  ⟨k.os.trans h.os, k.tape.trans h.tape, k.output.trans h.output, Nat.le_trans h.size k.size, fun i hi hn =>
    (k.block i (Nat.lt_of_lt_of_le hi h.size) (fun hm => (hT i hm).elim hn (fun h => by omega))).trans (h.block i hi hn)⟩
theorem FrS.of_fr {S : Nat → Prop} {L : List Nat} {a b : World} (h : Fr L a b) (hL : ∀ i ∈ L, S i ∨ a.heap.size ≤ i) : FrS S a b :=
  ⟨h.os, h.tape, h.output, h.size, fun i hi hn => h.block i hi (fun hm => (hL i hm).elim hn (fun h => by omega))⟩
theorem FrS.of_below {S : Nat → Prop} {a b : World} (h : Below a.heap.size a b) : FrS S a b := ⟨h.os, h.tape, h.output, h.size, fun i hi _ => h.block i hi⟩
theorem FrS.below {S : Nat → Prop} {a b : World} {B : Nat} (h : FrS S a b) (hB : B ≤ a.heap.size) (hS : ∀ i, i < B → ¬ S i) : Below B a b :=
  ⟨h.os, h.tape, h.output, h.size, fun k hk => h.block k (by omega) (hS k hk)⟩
theorem FrS.mono {S T : Nat → Prop} {a b : World} (h : FrS S a b) (hT : ∀ i, S i → T i) : FrS T a b := ⟨h.os, h.tape, h.output, h.size, fun i hi hn => h.block i hi (fun hm => hn (hT i hm))⟩

theorem TableAt.footLt {w : World} {base bt bs : Nat} {ks : List Int} {L : List (Nat × List (Int × ByteArray))} {sv fv : Value} (h : TableAt w base bt bs ks L sv fv) (k : Nat) (hk : Foot bt bs L sv fv k) : k < w.heap.size := by
  rcases hk with rfl | rfl | hk | hk | ⟨p, hp, rfl⟩
  · exact (Array.getElem?_eq_some_iff.1 h.tab).1
  · exact (Array.getElem?_eq_some_iff.1 h.sto.blk).1
  · exact (h.sto.sch.lt k hk).2
  · exact (h.sto.rows.own.lt k hk).2
  · exact (h.sto.rows.blk p hp).2.lt

theorem TableAt.zero {w : World} {base bt bs : Nat} {ks : List Int} {L : List (Nat × List (Int × ByteArray))} {sv fv : Value} (h : TableAt w base bt bs ks L sv fv) : TableAt w 0 bt bs ks L sv fv :=
  ⟨h.tab, Nat.zero_le _, ⟨h.sto.blk, Nat.zero_le _, own_base h.sto.sch, ⟨own_base h.sto.rows.own, fun p hp => ⟨Nat.zero_le _, (h.sto.rows.blk p hp).2⟩⟩⟩⟩

/-- A table that shows these rows, all of whose blocks are of one kind. -/
structure TabOK (w : World) (S : Nat → Prop) (bt : Nat) (ks : List Int) (rows : List (List (Int × ByteArray))) : Prop where
  ex : ∃ bs L sv fv, TableAt w 0 bt bs ks L sv fv ∧ L.map Prod.snd = rows ∧ ∀ k, Foot bt bs L sv fv k → S k

theorem TabOK.keep {w w' : World} {S T : Nat → Prop} {bt : Nat} {ks : List Int} {rows : List (List (Int × ByteArray))} (h : TabOK w S bt ks rows) (hS : ∀ k, S k → T k) (hb : ∀ k, k < w.heap.size → S k → w'.heap[k]? = w.heap[k]?) : TabOK w' T bt ks rows := by
  obtain ⟨bs, L, sv, fv, h1, h2, h3⟩ := h.ex
  exact ⟨bs, L, sv, fv, h1.keepOn (fun k hk hf => hb k hk (h3 k hf)), h2, fun k hf => hS k (h3 k hf)⟩

/-- What a schema and rows must be. -/
structure GoodK (ks : List Int) : Prop where
  one : 1 ≤ ks.length
  six : ks.length ≤ 6
  ty : ∀ k ∈ ks, isTypeB k = true
structure GoodR (ks : List Int) (rows : List (List (Int × ByteArray))) : Prop where
  few : rows.length ≤ 1000
  fit : ∀ r ∈ rows, FitsRow ks r ∧ RowRg r

theorem fits_small {ks : List Int} {r : List (Int × ByteArray)} (h : FitsRow ks r) : ∀ p ∈ r, p.2.size ≤ 1000000 := fun p hp => by
  obtain ⟨i, hi, rfl⟩ := List.getElem_of_mem hp
  have h1 := h.2 i (by rw [← h.1]; exact hi) hi
  have he : (r[i].2).toList.isEmpty = true → (r[i].2).size ≤ 1000000 := fun e => by
    rw [ByteArray.toList_eq] at e
    have : r[i].2.data.toList = [] := by simpa using e
    have h2 : r[i].2.data.size = 0 := by rw [← Array.length_toList, this]; rfl
    show r[i].2.data.size ≤ 1000000
    omega
  unfold fitsB at h1
  split at h1
  · exact he h1
  · split at h1
    · simp at h1; omega
    · split at h1
      · rw [Bool.and_eq_true] at h1; exact he h1.1
      · cases h1

theorem tabNew_ok (g cap : Nat) (ks : List Int) (w : World) (hks : KindsIn w g ks) (hg : GoodK ks) :
    Calls Tryd.prog 24 #[.slice (some ⟨g, 0, none⟩) ks.length cap] w fun e w' => ∃ bt, e = .returned (.tuple #[.pointer (some ⟨bt, 0, none⟩), .nilIface]) ∧ TabOK w' (fun b => w.heap.size ≤ b ∧ b < w'.heap.size) bt ks [] ∧ Below w.heap.size w w' :=
  (new_ok g cap ks w hks hg.one hg.six hg.ty).mono (fun e w' ⟨bt, bs, sv, he, hT, hb⟩ => ⟨bt, he, ⟨bs, [], sv, _, hT.zero, rfl, fun k hk => by
    refine ⟨?_, hT.footLt k hk⟩
    rcases hk with rfl | rfl | hk | hk | ⟨p, hp, _⟩
    · exact hT.lo
    · exact hT.sto.lo
    · exact (hT.sto.sch.lt k hk).1
    · cases hk
    · cases hp⟩, hb⟩)

theorem tabAppend_ok (S : Nat → Prop) (bt : Nat) (ks : List Int) (rows : List (List (Int × ByteArray))) (r : List (Int × ByteArray)) (g cap : Nat) (w : World) (h : TabOK w S bt ks rows) (hg : GoodK ks) (hl : rows.length < 1000) (hin : RowIn w g r) (hfit : FitsRow ks r) :
    Calls Tryd.prog 25 #[.pointer (some ⟨bt, 0, none⟩), .slice (some ⟨g, 0, none⟩) r.length cap] w fun e w' => e = .returned .nilIface ∧ TabOK w' (fun b => S b ∨ (w.heap.size ≤ b ∧ b < w'.heap.size)) bt ks (rows ++ [r]) ∧ FrS S w w' := by
  obtain ⟨bs, L, sv, fv, hT, hL, hS⟩ := h.ex
  have hlen : L.length = rows.length := by rw [← hL, List.length_map]
  refine (tableAppend_ok 0 bt bs ks L sv fv r g cap w hT (Nat.zero_le _) (by omega) hin hg.one (by have := hfit.1; have := hg.six; omega) hfit (fits_small hfit)).mono ?_
  rintro e w' ⟨rfl, fv', g', hT', hg', hF, ho⟩
  refine ⟨rfl, ⟨bs, L ++ [(g', r)], sv, fv', hT', by rw [List.map_append, hL]; rfl, fun k hk => ?_⟩, FrS.of_fr hF (fun i hi => .inl ?_)⟩
  · have hlt := hT'.footLt k hk
    rcases hk with rfl | rfl | hk | hk | ⟨p, hp, rfl⟩
    · exact .inl (hS _ (.inl rfl))
    · exact .inl (hS _ (.inr (.inl rfl)))
    · exact .inl (hS _ (.inr (.inr (.inl hk))))
    · rcases ho with h | ⟨k', h, h2⟩
      · rw [h] at hk; exact .inl (hS _ (.inr (.inr (.inr (.inl hk)))))
      · rw [h] at hk; simp only [Option.some.injEq] at hk; exact .inr ⟨by omega, hlt⟩
    · rcases List.mem_append.1 hp with hp | hp
      · exact .inl (hS _ (.inr (.inr (.inr (.inr ⟨p, hp, rfl⟩)))))
      · rw [List.mem_singleton.1 hp] at hlt ⊢; exact .inr ⟨hg', hlt⟩
  · rcases List.mem_cons.1 hi with rfl | hi
    · exact hS _ (.inr (.inl rfl))
    · exact hS _ (.inr (.inr (.inr (.inl (by simpa using hi)))))

theorem tabAppend_bad (S : Nat → Prop) (bt : Nat) (ks : List Int) (rows : List (List (Int × ByteArray))) (r : List (Int × ByteArray)) (ra : Option Addr) (cap : Nat) (w : World) (hgt : ErrType w) (h : TabOK w S bt ks rows) (hg : GoodK ks) (hl : rows.length ≤ 1000) (hin : RowAt w ra r) (hf : (appendFault ks r rows.length).1 ≠ 0) :
    Calls Tryd.prog 25 #[.pointer (some ⟨bt, 0, none⟩), .slice ra r.length cap] w fun e w' => ∃ fb, e = .returned (.iface 100 (.pointer (some ⟨fb, 0, none⟩))) ∧ FaultAt w' (.iface 100 (.pointer (some ⟨fb, 0, none⟩))) (appendFault ks r rows.length).1 (appendFault ks r rows.length).2 ∧ Below w.heap.size w w' := by
  obtain ⟨bs, L, sv, fv, hT, hL, hS⟩ := h.ex
  have hlen : L.length = rows.length := by rw [← hL, List.length_map]
  rw [← hlen] at hf ⊢
  exact tableAppend_bad 0 bt bs ks L sv fv r ra cap w hgt hT (by omega) hg.one hg.six hin hf

theorem tabScan_ok (S : Nat → Prop) (bt : Nat) (ks : List Int) (rows : List (List (Int × ByteArray))) (tcap : Nat) (ta : Option Addr) (T : List Tst) (w : World) (h : TabOK w S bt ks rows) (hg : GoodK ks) (hr : GoodR ks rows) (hT : TestsAt w ta T) (hv : ValidT ks T) :
    Calls Tryd.prog 12 #[.pointer (some ⟨bt, 0, none⟩), .slice ta T.length tcap] w fun e w' => ∃ v M, e = .returned (.tuple #[v, .nilIface]) ∧ RowsAt w' w.heap.size v M ∧ M.map Prod.snd = rows.filter (fun r => passB ks r T) ∧ Below w.heap.size w w' ∧ (M.map Prod.fst).Nodup := by
  obtain ⟨bs, L, sv, fv, hTa, hL, hS⟩ := h.ex
  have hlen : L.length = rows.length := by rw [← hL, List.length_map]
  rw [← hL]
  refine scan_ok 0 bt bs ks L sv fv tcap ta T w hTa (by have := hr.few; omega) hg.one hg.six (fun p hp => ?_) hT hv
  have hm : p.2 ∈ rows := by rw [← hL]; exact List.mem_map_of_mem hp
  exact ⟨(hr.fit _ hm).1.1, fits_small (hr.fit _ hm).1⟩

/-- The document's table likewise. -/
def RFoot (br : Nat) (R : List RRow) (sv fv : Value) (k : Nat) : Prop := k = br ∨ sv.ownBlock = some k ∨ fv.ownBlock = some k ∨ ∃ p ∈ R, p.g = k

theorem RefAt.keepOn {w w' : World} {base br : Nat} {ks : List Int} {R : List RRow} {sv fv : Value} (h : RefAt w base br ks R sv fv) (hb : ∀ k, RFoot br R sv fv k → w'.heap[k]? = w.heap[k]?) : RefAt w' base br ks R sv fv :=
  ⟨(hb br (.inl rfl)).trans h.blk, h.lo, own_keep2 h.sch (fun g hg => hb g (.inr (.inl hg))), ⟨own_keep2 h.rows.own (fun g hg => hb g (.inr (.inr (.inl hg)))), fun p hp => by
    obtain ⟨h1, h2, h3⟩ := h.rows.row p hp
    have e := hb p.g (.inr (.inr (.inr ⟨p, hp, rfl⟩)))
    exact ⟨h1, h2.keep e, by rw [e]; exact h3⟩⟩⟩

theorem RefAt.footLt {w : World} {base br : Nat} {ks : List Int} {R : List RRow} {sv fv : Value} (h : RefAt w base br ks R sv fv) (k : Nat) (hk : RFoot br R sv fv k) : k < w.heap.size := by
  rcases hk with rfl | hk | hk | ⟨p, hp, rfl⟩
  · exact (Array.getElem?_eq_some_iff.1 h.blk).1
  · exact (h.sch.lt k hk).2
  · exact (h.rows.own.lt k hk).2
  · obtain ⟨_, _, cs, fr, hc⟩ := h.rows.row p hp
    exact (Array.getElem?_eq_some_iff.1 hc).1

structure RefOK (w : World) (S : Nat → Prop) (br : Nat) (ks : List Int) (rows : List (List (Int × ByteArray))) : Prop where
  ex : ∃ R sv fv, RefAt w 0 br ks R sv fv ∧ R.map RRow.r = rows ∧ ∀ k, RFoot br R sv fv k → S k

theorem RefOK.keep {w w' : World} {S T : Nat → Prop} {br : Nat} {ks : List Int} {rows : List (List (Int × ByteArray))} (h : RefOK w S br ks rows) (hS : ∀ k, S k → T k) (hb : ∀ k, k < w.heap.size → S k → w'.heap[k]? = w.heap[k]?) : RefOK w' T br ks rows := by
  obtain ⟨R, sv, fv, h1, h2, h3⟩ := h.ex
  exact ⟨R, sv, fv, h1.keepOn (fun k hf => hb k (h1.footLt k hf) (h3 k hf)), h2, fun k hf => hS k (h3 k hf)⟩

/-- What the document's Append leaves. -/
def RefAppends (S : Nat → Prop) (br : Nat) (ks : List Int) (rows : List (List (Int × ByteArray))) (r : List (Int × ByteArray)) (w : World) (e : Ending) (w' : World) : Prop :=
  e = .returned (.tuple #[.int .i64 (appendFault ks r rows.length).1, .int .i64 (appendFault ks r rows.length).2]) ∧
    (((appendFault ks r rows.length).1 ≠ 0 ∧ Below w.heap.size w w') ∨ ((appendFault ks r rows.length).1 = 0 ∧ RefOK w' (fun b => S b ∨ (w.heap.size ≤ b ∧ b < w'.heap.size)) br ks (rows ++ [r]) ∧ FrS S w w'))

theorem refAppends_any (S : Nat → Prop) (br : Nat) (ks : List Int) (rows : List (List (Int × ByteArray))) (r : List (Int × ByteArray)) (ra : Option Addr) (cap : Nat) (w : World) (h : RefOK w S br ks rows) (hg : GoodK ks) (hl : rows.length ≤ 1000) (hin : RowA w ra r) :
    Calls Tryd.prog 39 #[.pointer (some ⟨br, 0, none⟩), .slice ra r.length cap] w (RefAppends S br ks rows r w) := by
  obtain ⟨R, sv, fv, hT, hL, hS⟩ := h.ex
  have hlen : R.length = rows.length := by rw [← hL, List.length_map]
  obtain ⟨sc, scap, rfl, hkin, _, _⟩ := hT.kinds hg.one
  have c0 : w.cell? ⟨br, 0, none⟩ = some (.slice (some ⟨sc, 0, none⟩) ks.length scap) := by rw [cell_of_row _ _ _ _ _ _ hT.blk]; rfl
  by_cases h1 : r.length = ks.length
  · have h0 := hg.one
    rcases hin with hn | ⟨g, zo, rfl, hin⟩
    · rw [hn] at h1; simp at h1; omega
    cases hb : firstBad (fitAt ks r) ks.length with
    | some i =>
      have hrf : rowFault ks r = (2, (i : Int)) := by unfold rowFault; rw [if_neg (by omega), hb]
      have hf : appendFault ks r rows.length = (2, (i : Int)) := by unfold appendFault; rw [hrf]; simp
      refine (refAppend_fit br sc scap ks r g zo cap w c0 hkin hg.ty hin (by have := hg.six; omega) h1 i hb).mono ?_
      rintro e w' ⟨rfl, hbel⟩
      unfold RefAppends
      rw [hf]
      exact ⟨rfl, .inl ⟨by simp, hbel⟩⟩
    | none =>
      have hrf : rowFault ks r = (0, 0) := by unfold rowFault; rw [if_neg (by omega), hb]
      have hfit := rowFault_ok ks r (by rw [hrf])
      refine (refAppend_ok 0 br ks R _ fv r g zo cap w hT (Nat.zero_le _) (by omega) hg.one hg.ty hin (by have := hg.six; omega) hfit).mono ?_
      rintro e w' (⟨hfull, rfl, hbel⟩ | ⟨hroom, rfl, fv', p, hT', hp, hpg, hF, ho⟩)
      · have hf : appendFault ks r rows.length = (6, 0) := by unfold appendFault; rw [hrf]; simp; omega
        unfold RefAppends
        rw [hf]
        exact ⟨rfl, .inl ⟨by simp, hbel⟩⟩
      · have hf : appendFault ks r rows.length = (0, 0) := by unfold appendFault; rw [hrf]; simp; omega
        unfold RefAppends
        rw [hf]
        refine ⟨rfl, .inr ⟨rfl, ⟨R ++ [p], _, fv', hT', by rw [List.map_append, hL, ← hp]; rfl, fun k hk => ?_⟩, FrS.of_fr hF (fun i hi => .inl ?_)⟩⟩
        · have hlt := hT'.footLt k hk
          rcases hk with rfl | hk | hk | ⟨q, hq, rfl⟩
          · exact .inl (hS _ (.inl rfl))
          · exact .inl (hS _ (.inr (.inl hk)))
          · rcases ho with h | ⟨k', h, h2⟩
            · rw [h] at hk; exact .inl (hS _ (.inr (.inr (.inl hk))))
            · rw [h] at hk; simp only [Option.some.injEq] at hk; exact .inr ⟨by omega, hlt⟩
          · rcases List.mem_append.1 hq with hq | hq
            · exact .inl (hS _ (.inr (.inr (.inr ⟨q, hq, rfl⟩))))
            · rw [List.mem_singleton.1 hq] at hlt ⊢; exact .inr ⟨hpg, hlt⟩
        · rcases List.mem_cons.1 hi with rfl | hi
          · exact hS _ (.inl rfl)
          · exact hS _ (.inr (.inr (.inl (by simpa using hi))))
  · have hrf : rowFault ks r = (2, -1) := by unfold rowFault; rw [if_pos (by omega)]
    have hf : appendFault ks r rows.length = (2, -1) := by unfold appendFault; rw [hrf]; simp
    refine (refAppend_len br sc scap ks r ra cap w c0 h1).mono ?_
    rintro e w' ⟨rfl, hbel⟩
    unfold RefAppends
    rw [hf]
    exact ⟨rfl, .inl ⟨by simp, hbel⟩⟩

end Go.Proofs.YtcconhgbefhdeaaDoor

namespace Go.Proofs.YtcconhgbefhdeaaDoor
open Go.RowKit

theorem TabOK.lt {w : World} {S : Nat → Prop} {bt : Nat} {ks : List Int} {rows : List (List (Int × ByteArray))} (h : TabOK w S bt ks rows) : TabOK w (fun k => S k ∧ k < w.heap.size) bt ks rows := by
  obtain ⟨bs, L, sv, fv, h1, h2, h3⟩ := h.ex
  exact ⟨bs, L, sv, fv, h1, h2, fun k hf => ⟨h3 k hf, h1.footLt k hf⟩⟩
theorem RefOK.lt {w : World} {S : Nat → Prop} {br : Nat} {ks : List Int} {rows : List (List (Int × ByteArray))} (h : RefOK w S br ks rows) : RefOK w (fun k => S k ∧ k < w.heap.size) br ks rows := by
  obtain ⟨R, sv, fv, h1, h2, h3⟩ := h.ex
  exact ⟨R, sv, fv, h1, h2, fun k hf => ⟨h3 k hf, h1.footLt k hf⟩⟩

/-- A table and the document's table that show the same rows and share no block; all their blocks are of one kind. -/
structure Pair (w : World) (S : Nat → Prop) (bt br : Nat) (ks : List Int) (rows : List (List (Int × ByteArray))) : Prop where
  ex : ∃ T T' : Nat → Prop, TabOK w T bt ks rows ∧ RefOK w T' br ks rows ∧ (∀ k, T k → S k ∧ k < w.heap.size) ∧ (∀ k, T' k → S k ∧ k < w.heap.size) ∧ ∀ k, T k → ¬ T' k

theorem Pair.keep {w w' : World} {S U : Nat → Prop} {bt br : Nat} {ks : List Int} {rows : List (List (Int × ByteArray))} (h : Pair w S bt br ks rows) (hz : w.heap.size ≤ w'.heap.size) (hS : ∀ k, k < w.heap.size → S k → U k) (hb : ∀ k, k < w.heap.size → S k → w'.heap[k]? = w.heap[k]?) : Pair w' U bt br ks rows := by
  obtain ⟨T, T', h1, h2, h3, h4, h5⟩ := h.ex
  exact ⟨T, T', h1.keep (fun _ h => h) (fun k hk ht => hb k hk (h3 k ht).1), h2.keep (fun _ h => h) (fun k hk ht => hb k hk (h4 k ht).1), fun k ht => ⟨hS k (h3 k ht).2 (h3 k ht).1, Nat.lt_of_lt_of_le (h3 k ht).2 hz⟩, fun k ht => ⟨hS k (h4 k ht).2 (h4 k ht).1, Nat.lt_of_lt_of_le (h4 k ht).2 hz⟩, h5⟩

/-- P4: the rows behind an Append. -/
def rowsAfter (ks : List Int) (rows : List (List (Int × ByteArray))) (r : List (Int × ByteArray)) : List (List (Int × ByteArray)) := if (appendFault ks r rows.length).1 = 0 then rows ++ [r] else rows

theorem appendFault_zero {ks : List Int} {r : List (Int × ByteArray)} {n : Nat} (h : (appendFault ks r n).1 = 0) : appendFault ks r n = (0, 0) ∧ FitsRow ks r ∧ n < 1000 := by
  by_cases h1 : (rowFault ks r).1 = 0
  · have hf := rowFault_ok ks r h1
    by_cases h2 : n < 1000
    · exact ⟨by unfold appendFault; rw [if_neg (by simpa using h1), if_pos h2], hf, h2⟩
    · have e : appendFault ks r n = (6, 0) := by unfold appendFault; rw [if_neg (by simpa using h1), if_neg h2]
      rw [e] at h; simp at h
  · have e : appendFault ks r n = (2, (rowFault ks r).2) := by unfold appendFault; rw [if_pos h1]
    rw [e] at h; simp at h

theorem goodR_after {ks : List Int} {rows : List (List (Int × ByteArray))} {r : List (Int × ByteArray)} (h : GoodR ks rows) (hr : RowRg r) : GoodR ks (rowsAfter ks rows r) := by
  unfold rowsAfter
  split
  · rename_i h0
    obtain ⟨_, hf, hn⟩ := appendFault_zero h0
    refine ⟨by simp; omega, fun x hx => ?_⟩
    rcases List.mem_append.1 hx with hx | hx
    · exact h.fit x hx
    · rw [List.mem_singleton.1 hx]; exact ⟨hf, hr⟩
  · exact h

/-- What an error of the program's says. -/
def ErrIs (w : World) (v : Value) (k a : Int) : Prop := (v = .nilIface ∧ k = 0 ∧ a = 0) ∨ FaultAt w v k a

theorem ErrIs.below {w w' : World} {v : Value} {k a : Int} (h : ErrIs w v k a) (hb : Below w.heap.size w w') : ErrIs w' v k a := h.imp id (fun h => h.below hb)

theorem lawFault_any (v : Value) (k a : Int) (w : World) (h : ErrIs w v k a) : Calls Tryd.prog 36 #[v] w fun e w' => e = .returned (.tuple #[.int .i64 k, .int .i64 a]) ∧ ∃ n, w' = w.drewN n := by
  rcases h with ⟨rfl, rfl, rfl⟩ | h
  · exact (lawFault_nil w).mono (fun e w' ⟨h1, h2⟩ => ⟨h1, 0, h2⟩)
  · exact lawFault_err v k a w h

/-- What the program's Append leaves. -/
def TabAppends (S : Nat → Prop) (bt : Nat) (ks : List Int) (rows : List (List (Int × ByteArray))) (r : List (Int × ByteArray)) (w : World) (e : Ending) (w' : World) : Prop :=
  ∃ v, e = .returned v ∧ ErrIs w' v (appendFault ks r rows.length).1 (appendFault ks r rows.length).2 ∧ TabOK w' (fun b => S b ∨ (w.heap.size ≤ b ∧ b < w'.heap.size)) bt ks (rowsAfter ks rows r) ∧ FrS S w w'

theorem tabAppends_any (S : Nat → Prop) (bt : Nat) (ks : List Int) (rows : List (List (Int × ByteArray))) (r : List (Int × ByteArray)) (ra : Option Addr) (cap : Nat) (w : World) (hgt : ErrType w) (h : TabOK w S bt ks rows) (hg : GoodK ks) (hl : rows.length ≤ 1000) (hin : RowAt w ra r) :
    Calls Tryd.prog 25 #[.pointer (some ⟨bt, 0, none⟩), .slice ra r.length cap] w (TabAppends S bt ks rows r w) := by
  by_cases h0 : (appendFault ks r rows.length).1 = 0
  · obtain ⟨hz, hf, hn⟩ := appendFault_zero h0
    rcases hin with hn' | ⟨g, rfl, hin⟩
    · have e1 := hf.1
      have e2 := hg.one
      rw [hn'] at e1
      simp only [List.length_nil] at e1
      omega
    refine (tabAppend_ok S bt ks rows r g cap w h hg hn hin hf).mono ?_
    rintro e w' ⟨rfl, h1, h2⟩
    refine ⟨_, rfl, .inl ⟨rfl, ?_, ?_⟩, ?_, h2⟩
    · rw [hz]
    · rw [hz]
    · unfold rowsAfter; rw [if_pos h0]; exact h1
  · refine (tabAppend_bad S bt ks rows r ra cap w hgt h hg hl hin h0).mono ?_
    rintro e w' ⟨fb, rfl, h1, h2⟩
    refine ⟨_, rfl, .inr h1, ?_, FrS.of_below h2⟩
    unfold rowsAfter; rw [if_neg h0]
    exact h.keep (fun _ h => .inl h) (fun k hk _ => h2.block k hk)

/-- What the document's Append leaves, in one. -/
def RefAppends1 (S : Nat → Prop) (br : Nat) (ks : List Int) (rows : List (List (Int × ByteArray))) (r : List (Int × ByteArray)) (w : World) (e : Ending) (w' : World) : Prop :=
  e = .returned (.tuple #[.int .i64 (appendFault ks r rows.length).1, .int .i64 (appendFault ks r rows.length).2]) ∧ RefOK w' (fun b => S b ∨ (w.heap.size ≤ b ∧ b < w'.heap.size)) br ks (rowsAfter ks rows r) ∧ FrS S w w'

theorem refAppends1_any (S : Nat → Prop) (br : Nat) (ks : List Int) (rows : List (List (Int × ByteArray))) (r : List (Int × ByteArray)) (ra : Option Addr) (cap : Nat) (w : World) (h : RefOK w S br ks rows) (hg : GoodK ks) (hl : rows.length ≤ 1000) (hin : RowA w ra r) :
    Calls Tryd.prog 39 #[.pointer (some ⟨br, 0, none⟩), .slice ra r.length cap] w (RefAppends1 S br ks rows r w) := by
  refine (refAppends_any S br ks rows r ra cap w h hg hl hin).mono ?_
  rintro e w' ⟨rfl, ⟨h0, hb⟩ | ⟨h0, h1, h2⟩⟩
  · refine ⟨rfl, ?_, FrS.of_below hb⟩
    unfold rowsAfter; rw [if_neg h0]
    exact h.keep (fun _ h => .inl h) (fun k hk _ => hb.block k hk)
  · refine ⟨rfl, ?_, h2⟩
    unfold rowsAfter; rw [if_pos h0]; exact h1

end Go.Proofs.YtcconhgbefhdeaaDoor

namespace Go.Proofs.YtcconhgbefhdeaaDoor
open Go.RowKit

/-- P5: the rows that come out. -/
def scanRows (ks : List Int) (rows : List (List (Int × ByteArray))) (T : List Tst) : List (List (Int × ByteArray)) := if (testFault ks T).1 = 0 then rows.filter (fun r => passB ks r T) else []

theorem testFault_zero {ks : List Int} {T : List Tst} (h : (testFault ks T).1 = 0) : testFault ks T = (0, 0) := by
  unfold testFault at h ⊢
  split at h
  · simp at h
  · rename_i h1
    rw [if_neg h1]
    split at h
    · simp at h
    · split at h
      · simp at h
      · rename_i h2; exact if_neg h2
theorem testFault_three {ks : List Int} {T : List Tst} (h : (testFault ks T).1 ≠ 0) : (testFault ks T).1 = 3 := by
  unfold testFault at h ⊢
  split at h
  · rename_i h1; rw [if_pos h1]
  · rename_i h1
    rw [if_neg h1]
    split at h
    · rfl
    · split at h
      · rename_i h2; rw [if_pos h2]
      · simp at h

theorem scanRows_sub {ks : List Int} {rows : List (List (Int × ByteArray))} {T : List Tst} : (scanRows ks rows T).length ≤ rows.length ∧ ∀ r ∈ scanRows ks rows T, r ∈ rows := by
  unfold scanRows
  split
  · exact ⟨List.length_filter_le _ _, fun r hr => (List.mem_filter.1 hr).1⟩
  · exact ⟨by simp, fun r hr => by cases hr⟩

/-- What the program's Scan leaves. -/
def TabScans (ks : List Int) (rows : List (List (Int × ByteArray))) (T : List Tst) (w : World) (e : Ending) (w' : World) : Prop :=
  ∃ v ev M, e = .returned (.tuple #[v, ev]) ∧ ErrIs w' ev (testFault ks T).1 (testFault ks T).2 ∧ RowsAt w' w.heap.size v M ∧ M.map Prod.snd = scanRows ks rows T ∧ Below w.heap.size w w' ∧ (M.map Prod.fst).Nodup

theorem tabScans_any (S : Nat → Prop) (bt : Nat) (ks : List Int) (rows : List (List (Int × ByteArray))) (tcap : Nat) (ta : Option Addr) (T : List Tst) (w : World) (hgt : ErrType w) (h : TabOK w S bt ks rows) (hg : GoodK ks) (hr : GoodR ks rows) (hT : TestsAt w ta T) :
    Calls Tryd.prog 12 #[.pointer (some ⟨bt, 0, none⟩), .slice ta T.length tcap] w (TabScans ks rows T w) := by
  by_cases h0 : (testFault ks T).1 = 0
  · refine (tabScan_ok S bt ks rows tcap ta T w h hg hr hT (testFault_ok ks T h0)).mono ?_
    rintro e w' ⟨v, M, rfl, h1, h2, h3, h4⟩
    refine ⟨v, _, M, rfl, .inl ⟨rfl, ?_, ?_⟩, h1, ?_, h3, h4⟩
    · rw [testFault_zero h0]
    · rw [testFault_zero h0]
    · unfold scanRows; rw [if_pos h0]; exact h2
  · obtain ⟨bs, L, sv, fv, hTa, hL, hS⟩ := h.ex
    refine (scan_bad 0 bt bs ks L sv fv tcap ta T w hgt hTa hg.one hT h0).mono ?_
    rintro e w' ⟨fb, rfl, h1, h2⟩
    refine ⟨_, _, [], rfl, .inr ?_, ⟨World.ownsRow_nil _ _ _ _, by simp⟩, ?_, h2, List.nodup_nil⟩
    · rw [testFault_three h0]; exact h1
    · unfold scanRows; rw [if_neg h0]; rfl

/-- What the document's Scan leaves. -/
def RefScans (ks : List Int) (rows : List (List (Int × ByteArray))) (T : List Tst) (w : World) (e : Ending) (w' : World) : Prop :=
  ∃ v R, e = .returned (.tuple #[v, .int .i64 (testFault ks T).1, .int .i64 (testFault ks T).2]) ∧ RRowsAt w' 0 v R ∧ R.map RRow.r = scanRows ks rows T ∧ Below w.heap.size w w'

theorem refScans_any (S : Nat → Prop) (br : Nat) (ks : List Int) (rows : List (List (Int × ByteArray))) (tcap : Nat) (ta : Option Addr) (T : List Tst) (w : World) (h : RefOK w S br ks rows) (hg : GoodK ks) (hr : GoodR ks rows) (hT : TestsA w ta T) (htg : TstRg T) :
    Calls Tryd.prog 57 #[.pointer (some ⟨br, 0, none⟩), .slice ta T.length tcap] w (RefScans ks rows T w) := by
  obtain ⟨R, sv, fv, hRA, hL, hS⟩ := h.ex
  have hlen : R.length = rows.length := by rw [← hL, List.length_map]
  by_cases h0 : (testFault ks T).1 = 0
  · obtain ⟨fa, fc, rfl⟩ : ∃ fa fc, fv = .slice fa R.length fc := by
      rcases hRA.rows.own.2 with ⟨h1, h2⟩ | ⟨gg, cp, _, h1, _⟩
      · exact ⟨none, 0, by rw [h1, h2]⟩
      · exact ⟨_, cp, h1⟩
    refine (refScan_ok 0 br ks R sv fa fc tcap ta T w hRA (by have := hr.few; omega) hg.one hg.ty (fun p hp => hr.fit _ (by rw [← hL]; exact List.mem_map_of_mem hp)) hT htg h0).mono ?_
    rintro e w' ⟨v, rfl, h1, h2⟩
    refine ⟨v, R.filter (fun p => passB ks p.r T), ?_, ⟨own_base h1, fun p hp => ?_⟩, ?_, h2⟩
    · rw [testFault_zero h0]
    · obtain ⟨_, a2, cs, fr, a3⟩ := hRA.rows.row p (List.mem_filter.1 hp).1
      have hb := h2.block p.g (Array.getElem?_eq_some_iff.1 a3).1
      exact ⟨Nat.zero_le _, a2.keep hb, cs, fr, hb.trans a3⟩
    · unfold scanRows; rw [if_pos h0, ← hL, List.filter_map]; rfl
  · refine (refScan_bad 0 br ks R sv fv tcap ta T w hRA hg.one hg.ty hT h0).mono ?_
    rintro e w' ⟨rfl, h2⟩
    refine ⟨_, [], rfl, ⟨World.ownsRow_nil _ _ _ _, by simp⟩, ?_, h2⟩
    unfold scanRows; rw [if_neg h0]; rfl

end Go.Proofs.YtcconhgbefhdeaaDoor

namespace Go.Proofs.YtcconhgbefhdeaaDoor
open Go.RowKit
attribute [local go_sem ↓] Go.wp_at_zero Go.wp_at_succ

/-- What appends leaves. -/
def AppPost (S : Nat → Prop) (bt br : Nat) (ks : List Int) (rows : List (List (Int × ByteArray))) (r : List (Int × ByteArray)) (w : World) (e : Ending) (w' : World) : Prop :=
  e = .returned (.bool true) ∧ Pair w' (fun b => S b ∨ w.heap.size ≤ b) bt br ks (rowsAfter ks rows r) ∧ FrS S w w'

theorem lentV_length (r : List (Int × ByteArray)) : (lentV r).length = r.length + 2 := by simp [lentV, pads]

theorem app_close {S : Nat → Prop} {bt br : Nat} {ks : List Int} {rows : List (List (Int × ByteArray))} {w w1 w2 w3 w4 wr : World} {T T' : Nat → Prop} {n m : Nat}
    (hT : ∀ k, T k → S k ∧ k < w.heap.size) (hT' : ∀ k, T' k → S k ∧ k < w.heap.size) (hd : ∀ k, T k → ¬ T' k)
    (b1 : Below w.heap.size w w1) (z1 : w.heap.size < w1.heap.size) (k2 : TabOK w2 (fun b => T b ∨ (w1.heap.size ≤ b ∧ b < w2.heap.size)) bt ks rows) (f2 : FrS T w1 w2)
    (k3 : RefOK w3 (fun b => T' b ∨ ((w2.drewN n).heap.size ≤ b ∧ b < w3.heap.size)) br ks rows) (f3 : FrS T' (w2.drewN n) w3) (b4 : Below w3.heap.size w3 w4) (fr : Fr [w.heap.size] (w4.drewN m) wr) :
    Pair wr (fun b => S b ∨ w.heap.size ≤ b) bt br ks rows ∧ FrS S w wr := by
  have z2 : w1.heap.size ≤ w2.heap.size := f2.size
  have z3 : w2.heap.size ≤ w3.heap.size := f3.size
  have z4 : w3.heap.size ≤ w4.heap.size := b4.size
  have z5 : w4.heap.size ≤ wr.heap.size := fr.size
  have e5 : ∀ k, k < w4.heap.size → k ≠ w.heap.size → wr.heap[k]? = w4.heap[k]? := fun k hk hne => fr.block k hk (by simpa using hne)
  have e4 : ∀ k, k < w3.heap.size → w4.heap[k]? = w3.heap[k]? := fun k hk => b4.block k hk
  have e3 : ∀ k, k < w2.heap.size → ¬ T' k → w3.heap[k]? = w2.heap[k]? := fun k hk hn => f3.block k hk hn
  refine ⟨⟨_, _, k2.keep (fun _ h => h) (fun k hk ht => ?_), k3.keep (fun _ h => h) (fun k hk ht => ?_), fun k ht => ?_, fun k ht => ?_, fun k ht ht' => ?_⟩, ?_⟩
  · have hne : k ≠ w.heap.size := by rcases ht with ht | ht; have := (hT k ht).2; omega; omega
    have hn' : ¬ T' k := by
      rcases ht with ht | ht
      · exact hd k ht
      · intro h; have := (hT' k h).2; omega
    rw [e5 k (by omega) hne, e4 k (by omega), e3 k hk hn']
  · have hne : k ≠ w.heap.size := by
      rcases ht with ht | ht
      · have := (hT' k ht).2; omega
      · have : w2.heap.size ≤ k := ht.1
        omega
    rw [e5 k (by omega) hne, e4 k hk]
  · rcases ht with ht | ht
    · exact ⟨.inl (hT k ht).1, by have := (hT k ht).2; omega⟩
    · exact ⟨.inr (by omega), by omega⟩
  · rcases ht with ht | ht
    · exact ⟨.inl (hT' k ht).1, by have := (hT' k ht).2; omega⟩
    · have : w2.heap.size ≤ k := ht.1
      exact ⟨.inr (by omega), by omega⟩
  · rcases ht with ht | ht <;> rcases ht' with ht' | ht'
    · exact hd k ht ht'
    · have : w2.heap.size ≤ k := ht'.1
      have := (hT k ht).2; omega
    · have := (hT' k ht').2; omega
    · have : w2.heap.size ≤ k := ht'.1
      omega
  · refine ⟨fr.os.trans (b4.os.trans (f3.os.trans (f2.os.trans b1.os))), fr.tape.trans (b4.tape.trans (f3.tape.trans (f2.tape.trans b1.tape))), fr.output.trans (b4.output.trans (f3.output.trans (f2.output.trans b1.output))), by omega, fun k hk hn => ?_⟩
    rw [e5 k (by omega) (by omega), e4 k (by omega), e3 k (by omega) (fun h => hn (hT' k h).1), f2.block k (by omega) (fun h => hn (hT k h).1), b1.block k hk]

set_option maxRecDepth 100000 in
set_option maxHeartbeats 1000000 in
theorem appends_any (S : Nat → Prop) (bt br : Nat) (ks : List Int) (rows : List (List (Int × ByteArray))) (r : List (Int × ByteArray)) (ra : Option Addr) (cap : Nat) (w : World) (hE : ErrType w) (h : Pair w S bt br ks rows) (hg : GoodK ks) (hl : rows.length ≤ 1000) (hin : RowA w ra r) (hn : r ≠ [] → ∀ a, ra = some a → ¬ S a.block) (hlen : r.length ≤ 9000000) :
    Calls Tryd.prog 20 #[.pointer (some ⟨bt, 0, none⟩), .pointer (some ⟨br, 0, none⟩), .slice ra r.length cap] w (AppPost S bt br ks rows r w) := by
  obtain ⟨T, T', hTab, hRef, hT, hT', hd⟩ := h.ex
  have hnil : ra = none → r = [] := fun e => by
    rcases hin with h | ⟨g, zo, h, _⟩
    · exact h
    · rw [e] at h; cases h
  -- the list that is handed in, at later worlds
  have hinK : ∀ w', (∀ k, k < w.heap.size → ¬ S k → w'.heap[k]? = w.heap[k]?) → RowA w' ra r := fun w' hb => by
    rcases hin with h | ⟨g, zo, h, h2⟩
    · exact .inl h
    · by_cases h0 : 0 < r.length
      · exact .inr ⟨g, zo, h, h2.keep (hb g (h2.lt h0) (hn (by intro e; rw [e] at h0; simp at h0) _ h))⟩
      · exact .inl (List.eq_nil_of_length_eq_zero (by omega))
  have HIN : Hid (∀ w', (∀ k, k < w.heap.size → ¬ S k → w'.heap[k]? = w.heap[k]?) → RowA w' ra r) := hinK
  have HNIL : Hid (ra = none → r = []) := hnil
  clear hinK hnil hn
  go_enter Tryd.func20, Tryd.ntmps20
  go_wp2_with fail
  refine (values_any ra cap r w hin hlen).mono ?_
  rintro e w1 ⟨rfl, hA, b1⟩
  have z1 : w.heap.size < w1.heap.size := (Array.getElem?_eq_some_iff.1 hA).1
  have HA : Hid (w1.heap[w.heap.size]? = some (.cells (vcells (lentV r)).toArray 30 (0, 0))) := hA
  clear hA hin
  have hA1 : RowIn w1 w.heap.size r := RowIn.of_block HA.out (by
    rw [List.toList_toArray, lentV, vcells_append, List.take_append_of_le_length (by rw [vcells_length]; omega), List.take_of_length_le (by rw [vcells_length]; omega)])
  have HA1 : Hid (RowIn w1 w.heap.size r) := hA1
  clear hA1
  have i0 : (0 : Int) ≤ (r.length : Int) := by omega
  have i1 : (r.length : Int) ≤ (r.length : Int) + 2 := by omega
  have hq : ∀ (W : World) (a : Option Addr) (n c n' c' : Nat), (binOp .eql 25 (.slice a n c) (.slice none n' c')).run Tryd.prog W = .ok (.bool (a.isNone)) W := fun W a n c n' c' => Lib.run_eql_slice_nil W _ _ a n c n' c' Tryd.underlying25
  have hra : ra = none ∨ ∃ a, ra = some a := by cases ra; exact .inl rfl; exact .inr ⟨_, rfl⟩
  rcases hra with rfl | ⟨a, rfl⟩
  rotate_left
  · go_wp2_with fail
    refine (tabAppends_any T bt ks rows r (some ⟨w.heap.size, 0, none⟩) (r.length + 2) w1 (hE.below b1) (hTab.keep (fun _ h => h) (fun k hk _ => b1.block k hk)) hg hl (.inr ⟨_, rfl, HA1.out⟩)).mono ?_
    rintro e w2 ⟨v, rfl, herr, hTab2, f2⟩
    have HT2 : Hid (TabOK w2 (fun b => T b ∨ (w1.heap.size ≤ b ∧ b < w2.heap.size)) bt ks (rowsAfter ks rows r)) := hTab2
    clear hTab2
    go_wp2_with fail
    refine (lawFault_any v _ _ w2 herr).mono ?_
    rintro e _ ⟨rfl, n, rfl⟩
    have hk2 : ∀ k, k < w.heap.size → ¬ T k → (w2.drewN n).heap[k]? = w.heap[k]? := fun k hk hn => (f2.block k (by have := b1.size; omega) hn).trans (b1.block k hk)
    have HK2 : Hid (∀ k, k < w.heap.size → ¬ T k → (w2.drewN n).heap[k]? = w.heap[k]?) := hk2
    clear hk2
    go_wp2_with fail
    refine (refAppends1_any T' br ks rows r _ cap (w2.drewN n) (hRef.keep (fun _ h => h) (fun k hk ht => HK2.out k hk (fun h => hd k h ht))) hg hl (HIN.out _ (fun k hk hn => HK2.out k hk (fun h => hn (hT k h).1)))).mono ?_
    rintro e w3 ⟨rfl, hRef3, f3⟩
    have HR3 : Hid (RefOK w3 (fun b => T' b ∨ ((w2.drewN n).heap.size ≤ b ∧ b < w3.heap.size)) br ks (rowsAfter ks rows r)) := hRef3
    clear hRef3
    have hk3 : ∀ k, k < w.heap.size → ¬ S k → w3.heap[k]? = w.heap[k]? := fun k hk hn => (f3.block k (by have := b1.size; have := f2.size; show k < w2.heap.size; omega) (fun h => hn (hT' k h).1)).trans (HK2.out k hk (fun h => hn (hT k h).1))
    have HK3 : Hid (∀ k, k < w.heap.size → ¬ S k → w3.heap[k]? = w.heap[k]?) := hk3
    clear hk3
    go_wp2_with fail
    refine (values_any _ cap r w3 (HIN.out _ HK3.out) hlen).mono ?_
    rintro e w4 ⟨rfl, hW, b4⟩
    have hA4 : w4.heap[w.heap.size]? = some (.cells (vcells (lentV r)).toArray 30 (0, 0)) := by
      have q2 := f2.size
      have q3 : w2.heap.size ≤ w3.heap.size := f3.size
      rw [b4.block _ (by omega), f3.block _ (show _ < w2.heap.size by omega) (fun h => by have := (hT' _ h).2; omega)]
      show w2.heap[w.heap.size]? = _
      rw [f2.block _ z1 (fun h => by have := (hT _ h).2; omega)]
      exact HA.out
    have HA4 : Hid (w4.heap[w.heap.size]? = some (.cells (vcells (lentV r)).toArray 30 (0, 0))) := hA4
    have hs := sameValues_eq w.heap.size w3.heap.size (r.length + 2) (r.length + 2) (lentV r) w4 (RowIn.of_block hA4 (by rw [List.toList_toArray, ← vcells_length, List.take_length])) (RowIn.of_block hW (by rw [List.toList_toArray, ← vcells_length, List.take_length])) (by rw [lentV_length]; omega)
    rw [lentV_length] at hs
    clear hA4 hW
    go_wp2_with fail
    refine hs.mono ?_
    rintro e _ ⟨rfl, m, rfl⟩
    clear hs
    go_wp2_with fail
    go_loopw [16] (fun i wr => ∃ k : Nat, k ≤ r.length + 2 ∧ i = .int .i64 k ∧ Fr [w.heap.size] (w4.drewN m) wr ∧ ∃ cur : Array Value, wr.heap[w.heap.size]? = some (.cells cur 30 (0, 0)) ∧ cur.size = 2 * (r.length + 2)) (fun i _ => r.length + 2 - (intOf i).toNat)
    case atStart => exact ⟨0, Nat.zero_le _, rfl, Fr.refl _ _, _, HA4.out, by simp [vcells_length, lentV_length]⟩
    case round =>
      obtain ⟨k, hk, rfl, hF, cur, hcur, hsz⟩ := hrel
      by_cases hlt : k < r.length + 2
      · obtain ⟨x1, e1⟩ : ∃ x, wr.cell? ⟨w.heap.size, k * 2, none⟩ = some x := by
          rw [cell_of_row _ _ _ _ _ _ hcur]; exact ⟨_, Array.getElem?_eq_getElem (by omega)⟩
        obtain ⟨x2, e2⟩ : ∃ x, wr.cell? ⟨w.heap.size, k * 2 + 1, none⟩ = some x := by
          rw [cell_of_row _ _ _ _ _ _ hcur]; exact ⟨_, Array.getElem?_eq_getElem (by omega)⟩
        have f1 : wr.frozen? ⟨w.heap.size, k * 2, none⟩ = false := by simp [World.frozen?, hcur]
        have f2 : wr.frozen? ⟨w.heap.size, k * 2 + 1, none⟩ = false := by simp [World.frozen?, hcur]
        have i0 : (0 : Int) ≤ (k : Int) := by omega
        have i1 : (k : Int) < (r.length : Int) + 2 := by omega
        have HCUR : Hid (wr.heap[w.heap.size]? = some (.cells cur 30 (0, 0))) := hcur
        clear hcur
        go_wp2
        go_roundw
        case rel =>
          refine ⟨k + 1, by omega, by go_num, (hF.setCell (p := ⟨w.heap.size, _, none⟩) (.inl (by simp)) _).setCell (p := ⟨w.heap.size, _, none⟩) (.inl (by simp)) _, _, heap_setCell_same _ _ _ _ _ _ (heap_setCell_same _ _ _ _ _ _ HCUR.out), by simpa using hsz⟩
        case measure => simp [intOf]; omega
      · have i1 : ¬ (k : Int) < (r.length : Int) + 2 := by omega
        clear hcur
        go_wp2
        go_ret
        exact ⟨by simp, app_close hT hT' hd b1 z1 HT2.out f2 HR3.out f3 b4 hF⟩
  · have HE : Hid (r = []) := HNIL.out rfl
    have ht := tabAppends_any T bt ks rows r none 0 w1 (hE.below b1) (hTab.keep (fun _ h => h) (fun k hk _ => b1.block k hk)) hg hl (.inl HE.out)
    rw [show r.length = 0 by rw [HE.out]; rfl] at ht
    go_wp2_with fail
    refine ht.mono ?_
    clear ht
    rintro e w2 ⟨v, rfl, herr, hTab2, f2⟩
    have HT2 : Hid (TabOK w2 (fun b => T b ∨ (w1.heap.size ≤ b ∧ b < w2.heap.size)) bt ks (rowsAfter ks rows r)) := hTab2
    clear hTab2
    go_wp2_with fail
    refine (lawFault_any v _ _ w2 herr).mono ?_
    rintro e _ ⟨rfl, n, rfl⟩
    have hk2 : ∀ k, k < w.heap.size → ¬ T k → (w2.drewN n).heap[k]? = w.heap[k]? := fun k hk hn => (f2.block k (by have := b1.size; omega) hn).trans (b1.block k hk)
    have HK2 : Hid (∀ k, k < w.heap.size → ¬ T k → (w2.drewN n).heap[k]? = w.heap[k]?) := hk2
    clear hk2
    go_wp2_with fail
    refine (refAppends1_any T' br ks rows r _ cap (w2.drewN n) (hRef.keep (fun _ h => h) (fun k hk ht => HK2.out k hk (fun h => hd k h ht))) hg hl (HIN.out _ (fun k hk hn => HK2.out k hk (fun h => hn (hT k h).1)))).mono ?_
    rintro e w3 ⟨rfl, hRef3, f3⟩
    have HR3 : Hid (RefOK w3 (fun b => T' b ∨ ((w2.drewN n).heap.size ≤ b ∧ b < w3.heap.size)) br ks (rowsAfter ks rows r)) := hRef3
    clear hRef3
    have hk3 : ∀ k, k < w.heap.size → ¬ S k → w3.heap[k]? = w.heap[k]? := fun k hk hn => (f3.block k (by have := b1.size; have := f2.size; show k < w2.heap.size; omega) (fun h => hn (hT' k h).1)).trans (HK2.out k hk (fun h => hn (hT k h).1))
    have HK3 : Hid (∀ k, k < w.heap.size → ¬ S k → w3.heap[k]? = w.heap[k]?) := hk3
    clear hk3
    go_wp2_with fail
    refine (values_any _ cap r w3 (HIN.out _ HK3.out) hlen).mono ?_
    rintro e w4 ⟨rfl, hW, b4⟩
    have hA4 : w4.heap[w.heap.size]? = some (.cells (vcells (lentV r)).toArray 30 (0, 0)) := by
      have q2 := f2.size
      have q3 : w2.heap.size ≤ w3.heap.size := f3.size
      rw [b4.block _ (by omega), f3.block _ (show _ < w2.heap.size by omega) (fun h => by have := (hT' _ h).2; omega)]
      show w2.heap[w.heap.size]? = _
      rw [f2.block _ z1 (fun h => by have := (hT _ h).2; omega)]
      exact HA.out
    have HA4 : Hid (w4.heap[w.heap.size]? = some (.cells (vcells (lentV r)).toArray 30 (0, 0))) := hA4
    have hs := sameValues_eq w.heap.size w3.heap.size (r.length + 2) (r.length + 2) (lentV r) w4 (RowIn.of_block hA4 (by rw [List.toList_toArray, ← vcells_length, List.take_length])) (RowIn.of_block hW (by rw [List.toList_toArray, ← vcells_length, List.take_length])) (by rw [lentV_length]; omega)
    rw [lentV_length] at hs
    clear hA4 hW
    go_wp2_with fail
    refine hs.mono ?_
    rintro e _ ⟨rfl, m, rfl⟩
    clear hs
    go_wp2_with fail
    go_loopw [16] (fun i wr => ∃ k : Nat, k ≤ r.length + 2 ∧ i = .int .i64 k ∧ Fr [w.heap.size] (w4.drewN m) wr ∧ ∃ cur : Array Value, wr.heap[w.heap.size]? = some (.cells cur 30 (0, 0)) ∧ cur.size = 2 * (r.length + 2)) (fun i _ => r.length + 2 - (intOf i).toNat)
    case atStart => exact ⟨0, Nat.zero_le _, rfl, Fr.refl _ _, _, HA4.out, by simp [vcells_length, lentV_length]⟩
    case round =>
      obtain ⟨k, hk, rfl, hF, cur, hcur, hsz⟩ := hrel
      by_cases hlt : k < r.length + 2
      · obtain ⟨x1, e1⟩ : ∃ x, wr.cell? ⟨w.heap.size, k * 2, none⟩ = some x := by
          rw [cell_of_row _ _ _ _ _ _ hcur]; exact ⟨_, Array.getElem?_eq_getElem (by omega)⟩
        obtain ⟨x2, e2⟩ : ∃ x, wr.cell? ⟨w.heap.size, k * 2 + 1, none⟩ = some x := by
          rw [cell_of_row _ _ _ _ _ _ hcur]; exact ⟨_, Array.getElem?_eq_getElem (by omega)⟩
        have f1 : wr.frozen? ⟨w.heap.size, k * 2, none⟩ = false := by simp [World.frozen?, hcur]
        have f2 : wr.frozen? ⟨w.heap.size, k * 2 + 1, none⟩ = false := by simp [World.frozen?, hcur]
        have i0 : (0 : Int) ≤ (k : Int) := by omega
        have i1 : (k : Int) < (r.length : Int) + 2 := by omega
        have HCUR : Hid (wr.heap[w.heap.size]? = some (.cells cur 30 (0, 0))) := hcur
        clear hcur
        go_wp2
        go_roundw
        case rel =>
          refine ⟨k + 1, by omega, by go_num, (hF.setCell (p := ⟨w.heap.size, _, none⟩) (.inl (by simp)) _).setCell (p := ⟨w.heap.size, _, none⟩) (.inl (by simp)) _, _, heap_setCell_same _ _ _ _ _ _ (heap_setCell_same _ _ _ _ _ _ HCUR.out), by simpa using hsz⟩
        case measure => simp [intOf]; omega
      · have i1 : ¬ (k : Int) < (r.length : Int) + 2 := by omega
        clear hcur
        go_wp2
        go_ret
        exact ⟨by simp, app_close hT hT' hd b1 z1 HT2.out f2 HR3.out f3 b4 hF⟩

end Go.Proofs.YtcconhgbefhdeaaDoor
