import Derived.Test.YtcconhgbefhdeaaDoorKeep
import Derived.Test.YtcconhgbefhdeaaDoorScanErr
import Derived.Test.YtcconhgbefhdeaaDoorTScan
import Derived.Test.YtcconhgbefhdeaaDoorNew
namespace Go.Proofs.YtcconhgbefhdeaaDoor
open Go.RowKit

/-- All blocks that were there, but for some, are as they were. -/
structure FrS (S : Nat → Prop) (w w' : World) : Prop where
  os : w'.os = w.os
  tape : w'.tape = w.tape
  output : w'.output = w.output
  size : w.heap.size ≤ w'.heap.size
  block : ∀ k, k < w.heap.size → ¬ S k → w'.heap[k]? = w.heap[k]?

theorem FrS.refl (S : Nat → Prop) (w : World) : FrS S w w := ⟨rfl, rfl, rfl, Nat.le_refl _, fun _ _ _ => rfl⟩
theorem FrS.trans {S T : Nat → Prop} {a b c : World} (h : FrS S a b) (k : FrS T b c) (hT : ∀ i, T i → S i ∨ a.heap.size ≤ i) : FrS S a c :=
  ⟨k.os.trans h.os, k.tape.trans h.tape, k.output.trans h.output, Nat.le_trans h.size k.size, fun i hi hn =>
    (k.block i (Nat.lt_of_lt_of_le hi h.size) (fun hm => (hT i hm).elim hn (fun h => by omega))).trans (h.block i hi hn)⟩
theorem FrS.of_fr {S : Nat → Prop} {L : List Nat} {a b : World} (h : Fr L a b) (hL : ∀ i ∈ L, S i ∨ a.heap.size ≤ i) : FrS S a b :=
  ⟨h.os, h.tape, h.output, h.size, fun i hi hn => h.block i hi (fun hm => (hL i hm).elim hn (fun h => by omega))⟩
theorem FrS.of_below {S : Nat → Prop} {a b : World} (h : Below a.heap.size a b) : FrS S a b := ⟨h.os, h.tape, h.output, h.size, fun i hi _ => h.block i hi⟩
theorem FrS.below {S : Nat → Prop} {a b : World} {B : Nat} (h : FrS S a b) (hB : B ≤ a.heap.size) (hS : ∀ i, i < B → ¬ S i) : Below B a b :=
  ⟨h.os, h.tape, h.output, h.size, fun k hk => h.block k (by omega) (hS k hk)⟩
theorem FrS.mono {S T : Nat → Prop} {a b : World} (h : FrS S a b) (hT : ∀ i, S i → T i) : FrS T a b := ⟨h.os, h.tape, h.output, h.size, fun i hi hn => h.block i hi (fun hm => hn (hT i hm))⟩

theorem TableAt.footLt {w : World} {base bt bs : Nat} {ks : List Int} {L : List (Nat × List (Int × ByteArray))} {sv fv : Value} (h : TableAt w base bt bs ks L sv fv) (k : Nat) (hk : Foot bt bs L sv fv k) : k < w.heap.size := by
  rcases hk with rfl | rfl | hk | hk | ⟨p, hp, rfl⟩
  · exact (Array.getElem?_eq_some_iff.1 h.tab).1
  · exact (Array.getElem?_eq_some_iff.1 h.sto.blk).1
  · exact (h.sto.sch.lt k hk).2
  · exact (h.sto.rows.own.lt k hk).2
  · exact (h.sto.rows.blk p hp).2.lt

theorem TableAt.zero {w : World} {base bt bs : Nat} {ks : List Int} {L : List (Nat × List (Int × ByteArray))} {sv fv : Value} (h : TableAt w base bt bs ks L sv fv) : TableAt w 0 bt bs ks L sv fv :=
  ⟨h.tab, Nat.zero_le _, ⟨h.sto.blk, Nat.zero_le _, own_base h.sto.sch, ⟨own_base h.sto.rows.own, fun p hp => ⟨Nat.zero_le _, (h.sto.rows.blk p hp).2⟩⟩⟩⟩

/-- A table that shows these rows, all of whose blocks are of one kind. -/
structure TabOK (w : World) (S : Nat → Prop) (bt : Nat) (ks : List Int) (rows : List (List (Int × ByteArray))) : Prop where
  ex : ∃ bs L sv fv, TableAt w 0 bt bs ks L sv fv ∧ L.map Prod.snd = rows ∧ ∀ k, Foot bt bs L sv fv k → S k

theorem TabOK.keep {w w' : World} {S T : Nat → Prop} {bt : Nat} {ks : List Int} {rows : List (List (Int × ByteArray))} (h : TabOK w S bt ks rows) (hS : ∀ k, S k → T k) (hb : ∀ k, k < w.heap.size → S k → w'.heap[k]? = w.heap[k]?) : TabOK w' T bt ks rows := by
  obtain ⟨bs, L, sv, fv, h1, h2, h3⟩ := h.ex
  exact ⟨bs, L, sv, fv, h1.keepOn (fun k hk hf => hb k hk (h3 k hf)), h2, fun k hf => hS k (h3 k hf)⟩

/-- What a schema and rows must be. -/
structure GoodK (ks : List Int) : Prop where
  one : 1 ≤ ks.length
  six : ks.length ≤ 6
  ty : ∀ k ∈ ks, isTypeB k = true
structure GoodR (ks : List Int) (rows : List (List (Int × ByteArray))) : Prop where
  few : rows.length ≤ 1000
  fit : ∀ r ∈ rows, FitsRow ks r ∧ RowRg r

theorem fits_small {ks : List Int} {r : List (Int × ByteArray)} (h : FitsRow ks r) : ∀ p ∈ r, p.2.size ≤ 1000000 := fun p hp => by
  obtain ⟨i, hi, rfl⟩ := List.getElem_of_mem hp
  have h1 := h.2 i (by rw [← h.1]; exact hi) hi
  have he : (r[i].2).toList.isEmpty = true → (r[i].2).size ≤ 1000000 := fun e => by
    rw [ByteArray.toList_eq] at e
    have : r[i].2.data.toList = [] := by simpa using e
    have h2 : r[i].2.data.size = 0 := by rw [← Array.length_toList, this]; rfl
    show r[i].2.data.size ≤ 1000000
    omega
  unfold fitsB at h1
  split at h1
  · exact he h1
  · split at h1
    · simp at h1; omega
    · split at h1
      · rw [Bool.and_eq_true] at h1; exact he h1.1
      · cases h1

theorem tabNew_ok (g cap : Nat) (ks : List Int) (w : World) (hks : KindsIn w g ks) (hg : GoodK ks) :
    Calls Tryd.prog 24 #[.slice (some ⟨g, 0, none⟩) ks.length cap] w fun e w' => ∃ bt, e = .returned (.tuple #[.pointer (some ⟨bt, 0, none⟩), .nilIface]) ∧ TabOK w' (fun b => w.heap.size ≤ b ∧ b < w'.heap.size) bt ks [] ∧ Below w.heap.size w w' :=
  (new_ok g cap ks w hks hg.one hg.six hg.ty).mono (fun e w' ⟨bt, bs, sv, he, hT, hb⟩ => ⟨bt, he, ⟨bs, [], sv, _, hT.zero, rfl, fun k hk => by
    refine ⟨?_, hT.footLt k hk⟩
    rcases hk with rfl | rfl | hk | hk | ⟨p, hp, _⟩
    · exact hT.lo
    · exact hT.sto.lo
    · exact (hT.sto.sch.lt k hk).1
    · cases hk
    · cases hp⟩, hb⟩)

theorem tabAppend_ok (S : Nat → Prop) (bt : Nat) (ks : List Int) (rows : List (List (Int × ByteArray))) (r : List (Int × ByteArray)) (g cap : Nat) (w : World) (h : TabOK w S bt ks rows) (hg : GoodK ks) (hl : rows.length < 1000) (hin : RowIn w g r) (hfit : FitsRow ks r) :
    Calls Tryd.prog 25 #[.pointer (some ⟨bt, 0, none⟩), .slice (some ⟨g, 0, none⟩) r.length cap] w fun e w' => e = .returned .nilIface ∧ TabOK w' (fun b => S b ∨ (w.heap.size ≤ b ∧ b < w'.heap.size)) bt ks (rows ++ [r]) ∧ FrS S w w' := by
  obtain ⟨bs, L, sv, fv, hT, hL, hS⟩ := h.ex
  have hlen : L.length = rows.length := by rw [← hL, List.length_map]
  refine (tableAppend_ok 0 bt bs ks L sv fv r g cap w hT (Nat.zero_le _) (by omega) hin hg.one (by have := hfit.1; have := hg.six; omega) hfit (fits_small hfit)).mono ?_
  rintro e w' ⟨rfl, fv', g', hT', hg', hF, ho⟩
  refine ⟨rfl, ⟨bs, L ++ [(g', r)], sv, fv', hT', by rw [List.map_append, hL]; rfl, fun k hk => ?_⟩, FrS.of_fr hF (fun i hi => .inl ?_)⟩
  · have hlt := hT'.footLt k hk
    rcases hk with rfl | rfl | hk | hk | ⟨p, hp, rfl⟩
    · exact .inl (hS _ (.inl rfl))
    · exact .inl (hS _ (.inr (.inl rfl)))
    · exact .inl (hS _ (.inr (.inr (.inl hk))))
    · rcases ho with h | ⟨k', h, h2⟩
      · rw [h] at hk; exact .inl (hS _ (.inr (.inr (.inr (.inl hk)))))
      · rw [h] at hk; simp only [Option.some.injEq] at hk; exact .inr ⟨by omega, hlt⟩
    · rcases List.mem_append.1 hp with hp | hp
      · exact .inl (hS _ (.inr (.inr (.inr (.inr ⟨p, hp, rfl⟩)))))
      · rw [List.mem_singleton.1 hp] at hlt ⊢; exact .inr ⟨hg', hlt⟩
  · rcases List.mem_cons.1 hi with rfl | hi
    · exact hS _ (.inr (.inl rfl))
    · exact hS _ (.inr (.inr (.inr (.inl (by simpa using hi)))))

theorem tabAppend_bad (S : Nat → Prop) (bt : Nat) (ks : List Int) (rows : List (List (Int × ByteArray))) (r : List (Int × ByteArray)) (ra : Option Addr) (cap : Nat) (w : World) (hgt : ErrType w) (h : TabOK w S bt ks rows) (hg : GoodK ks) (hl : rows.length ≤ 1000) (hin : RowAt w ra r) (hf : (appendFault ks r rows.length).1 ≠ 0) :
    Calls Tryd.prog 25 #[.pointer (some ⟨bt, 0, none⟩), .slice ra r.length cap] w fun e w' => ∃ fb, e = .returned (.iface 100 (.pointer (some ⟨fb, 0, none⟩))) ∧ FaultAt w' (.iface 100 (.pointer (some ⟨fb, 0, none⟩))) (appendFault ks r rows.length).1 (appendFault ks r rows.length).2 ∧ Below w.heap.size w w' := by
  obtain ⟨bs, L, sv, fv, hT, hL, hS⟩ := h.ex
  have hlen : L.length = rows.length := by rw [← hL, List.length_map]
  rw [← hlen] at hf ⊢
  exact tableAppend_bad 0 bt bs ks L sv fv r ra cap w hgt hT (by omega) hg.one hg.six hin hf

theorem tabScan_ok (S : Nat → Prop) (bt : Nat) (ks : List Int) (rows : List (List (Int × ByteArray))) (tcap : Nat) (ta : Option Addr) (T : List Tst) (w : World) (h : TabOK w S bt ks rows) (hg : GoodK ks) (hr : GoodR ks rows) (hT : TestsAt w ta T) (hv : ValidT ks T) :
    Calls Tryd.prog 12 #[.pointer (some ⟨bt, 0, none⟩), .slice ta T.length tcap] w fun e w' => ∃ v M, e = .returned (.tuple #[v, .nilIface]) ∧ RowsAt w' w.heap.size v M ∧ M.map Prod.snd = rows.filter (fun r => passB ks r T) ∧ Below w.heap.size w w' ∧ (M.map Prod.fst).Nodup := by
  obtain ⟨bs, L, sv, fv, hTa, hL, hS⟩ := h.ex
  have hlen : L.length = rows.length := by rw [← hL, List.length_map]
  rw [← hL]
  refine scan_ok 0 bt bs ks L sv fv tcap ta T w hTa (by have := hr.few; omega) hg.one hg.six (fun p hp => ?_) hT hv
  have hm : p.2 ∈ rows := by rw [← hL]; exact List.mem_map_of_mem hp
  exact ⟨(hr.fit _ hm).1.1, fits_small (hr.fit _ hm).1⟩

/-- The document's table likewise. -/
def RFoot (br : Nat) (R : List RRow) (sv fv : Value) (k : Nat) : Prop := k = br ∨ sv.ownBlock = some k ∨ fv.ownBlock = some k ∨ ∃ p ∈ R, p.g = k

theorem RefAt.keepOn {w w' : World} {base br : Nat} {ks : List Int} {R : List RRow} {sv fv : Value} (h : RefAt w base br ks R sv fv) (hb : ∀ k, RFoot br R sv fv k → w'.heap[k]? = w.heap[k]?) : RefAt w' base br ks R sv fv :=
  ⟨(hb br (.inl rfl)).trans h.blk, h.lo, own_keep2 h.sch (fun g hg => hb g (.inr (.inl hg))), ⟨own_keep2 h.rows.own (fun g hg => hb g (.inr (.inr (.inl hg)))), fun p hp => by
    obtain ⟨h1, h2, h3⟩ := h.rows.row p hp
    have e := hb p.g (.inr (.inr (.inr ⟨p, hp, rfl⟩)))
    exact ⟨h1, h2.keep e, by rw [e]; exact h3⟩⟩⟩

theorem RefAt.footLt {w : World} {base br : Nat} {ks : List Int} {R : List RRow} {sv fv : Value} (h : RefAt w base br ks R sv fv) (k : Nat) (hk : RFoot br R sv fv k) : k < w.heap.size := by
  rcases hk with rfl | hk | hk | ⟨p, hp, rfl⟩
  · exact (Array.getElem?_eq_some_iff.1 h.blk).1
  · exact (h.sch.lt k hk).2
  · exact (h.rows.own.lt k hk).2
  · obtain ⟨_, _, cs, fr, hc⟩ := h.rows.row p hp
    exact (Array.getElem?_eq_some_iff.1 hc).1

structure RefOK (w : World) (S : Nat → Prop) (br : Nat) (ks : List Int) (rows : List (List (Int × ByteArray))) : Prop where
  ex : ∃ R sv fv, RefAt w 0 br ks R sv fv ∧ R.map RRow.r = rows ∧ ∀ k, RFoot br R sv fv k → S k

theorem RefOK.keep {w w' : World} {S T : Nat → Prop} {br : Nat} {ks : List Int} {rows : List (List (Int × ByteArray))} (h : RefOK w S br ks rows) (hS : ∀ k, S k → T k) (hb : ∀ k, k < w.heap.size → S k → w'.heap[k]? = w.heap[k]?) : RefOK w' T br ks rows := by
  obtain ⟨R, sv, fv, h1, h2, h3⟩ := h.ex
  exact ⟨R, sv, fv, h1.keepOn (fun k hf => hb k (h1.footLt k hf) (h3 k hf)), h2, fun k hf => hS k (h3 k hf)⟩

/-- What the document's Append leaves. -/
def RefAppends (S : Nat → Prop) (br : Nat) (ks : List Int) (rows : List (List (Int × ByteArray))) (r : List (Int × ByteArray)) (w : World) (e : Ending) (w' : World) : Prop :=
  e = .returned (.tuple #[.int .i64 (appendFault ks r rows.length).1, .int .i64 (appendFault ks r rows.length).2]) ∧
    (((appendFault ks r rows.length).1 ≠ 0 ∧ Below w.heap.size w w') ∨ ((appendFault ks r rows.length).1 = 0 ∧ RefOK w' (fun b => S b ∨ (w.heap.size ≤ b ∧ b < w'.heap.size)) br ks (rows ++ [r]) ∧ FrS S w w'))

theorem refAppends_any (S : Nat → Prop) (br : Nat) (ks : List Int) (rows : List (List (Int × ByteArray))) (r : List (Int × ByteArray)) (ra : Option Addr) (cap : Nat) (w : World) (h : RefOK w S br ks rows) (hg : GoodK ks) (hl : rows.length ≤ 1000) (hin : RowA w ra r) :
    Calls Tryd.prog 39 #[.pointer (some ⟨br, 0, none⟩), .slice ra r.length cap] w (RefAppends S br ks rows r w) := by
  obtain ⟨R, sv, fv, hT, hL, hS⟩ := h.ex
  have hlen : R.length = rows.length := by rw [← hL, List.length_map]
  obtain ⟨sc, scap, rfl, hkin, _, _⟩ := hT.kinds hg.one
  have c0 : w.cell? ⟨br, 0, none⟩ = some (.slice (some ⟨sc, 0, none⟩) ks.length scap) := by rw [cell_of_row _ _ _ _ _ _ hT.blk]; rfl
  by_cases h1 : r.length = ks.length
  · have h0 := hg.one
    rcases hin with hn | ⟨g, zo, rfl, hin⟩
    · rw [hn] at h1; simp at h1; omega
    cases hb : firstBad (fitAt ks r) ks.length with
    | some i =>
      have hrf : rowFault ks r = (2, (i : Int)) := by unfold rowFault; rw [if_neg (by omega), hb]
      have hf : appendFault ks r rows.length = (2, (i : Int)) := by unfold appendFault; rw [hrf]; simp
      refine (refAppend_fit br sc scap ks r g zo cap w c0 hkin hg.ty hin (by have := hg.six; omega) h1 i hb).mono ?_
      rintro e w' ⟨rfl, hbel⟩
      unfold RefAppends
      rw [hf]
      exact ⟨rfl, .inl ⟨by simp, hbel⟩⟩
    | none =>
      have hrf : rowFault ks r = (0, 0) := by unfold rowFault; rw [if_neg (by omega), hb]
      have hfit := rowFault_ok ks r (by rw [hrf])
      refine (refAppend_ok 0 br ks R _ fv r g zo cap w hT (Nat.zero_le _) (by omega) hg.one hg.ty hin (by have := hg.six; omega) hfit).mono ?_
      rintro e w' (⟨hfull, rfl, hbel⟩ | ⟨hroom, rfl, fv', p, hT', hp, hpg, hF, ho⟩)
      · have hf : appendFault ks r rows.length = (6, 0) := by unfold appendFault; rw [hrf]; simp; omega
        unfold RefAppends
        rw [hf]
        exact ⟨rfl, .inl ⟨by simp, hbel⟩⟩
      · have hf : appendFault ks r rows.length = (0, 0) := by unfold appendFault; rw [hrf]; simp; omega
        unfold RefAppends
        rw [hf]
        refine ⟨rfl, .inr ⟨rfl, ⟨R ++ [p], _, fv', hT', by rw [List.map_append, hL, ← hp]; rfl, fun k hk => ?_⟩, FrS.of_fr hF (fun i hi => .inl ?_)⟩⟩
        · have hlt := hT'.footLt k hk
          rcases hk with rfl | hk | hk | ⟨q, hq, rfl⟩
          · exact .inl (hS _ (.inl rfl))
          · exact .inl (hS _ (.inr (.inl hk)))
          · rcases ho with h | ⟨k', h, h2⟩
            · rw [h] at hk; exact .inl (hS _ (.inr (.inr (.inl hk))))
            · rw [h] at hk; simp only [Option.some.injEq] at hk; exact .inr ⟨by omega, hlt⟩
          · rcases List.mem_append.1 hq with hq | hq
            · exact .inl (hS _ (.inr (.inr (.inr ⟨q, hq, rfl⟩))))
            · rw [List.mem_singleton.1 hq] at hlt ⊢; exact .inr ⟨hpg, hlt⟩
        · rcases List.mem_cons.1 hi with rfl | hi
          · exact hS _ (.inl rfl)
          · exact hS _ (.inr (.inr (.inl (by simpa using hi))))
  · have hrf : rowFault ks r = (2, -1) := by unfold rowFault; rw [if_pos (by omega)]
    have hf : appendFault ks r rows.length = (2, -1) := by unfold appendFault; rw [hrf]; simp
    refine (refAppend_len br sc scap ks r ra cap w c0 h1).mono ?_
    rintro e w' ⟨rfl, hbel⟩
    unfold RefAppends
    rw [hf]
    exact ⟨rfl, .inl ⟨by simp, hbel⟩⟩

end Go.Proofs.YtcconhgbefhdeaaDoor
