import Derived.Test.YtcconhgbefhdeaaDoorScansP11
import Derived.Lib.SliceRun
namespace Go.Proofs.YtcconhgbefhdeaaDoor
open Go.RowKit

/-- A table of the script's, and the document's. -/
structure Tbl where
  bt : Nat
  br : Nat
  ks : List Int
  rows : List (List (Int × ByteArray))

def Tbl.pt (t : Tbl) : Value := .pointer (some ⟨t.bt, 0, none⟩)
def Tbl.pr (t : Tbl) : Value := .pointer (some ⟨t.br, 0, none⟩)

/-- Blocks of colour 1 are the lists that came out. -/
def Kept (col : Nat → Nat) (w : World) (b : Nat) : Prop := col b = 1 ∧ b < w.heap.size

/-- How the script's World stands behind some steps: each block has a colour: 0: none of ours; 1: a list that came out; 2: the World's own; 3 + i: table i and the document's. -/
structure WorldOK (w : World) (wb : Nat) (col : Nat → Nat) (Ts : List Tbl) (s : Nat) : Prop where
  wbc : col wb = 2
  ex : ∃ tv rv lv ov ls rws, BookAt w wb [tv, rv, lv, ov] [Ts.map Tbl.pt, Ts.map Tbl.pr, ls, rws] ∧ (∀ v ∈ [tv, rv, lv, ov], ∀ g, v.ownBlock = some g → col g = 2) ∧
    (∀ i (h : i < ls.length), KeptRow w (Kept col w) i ls[i]) ∧ (∀ i (h : i < rws.length), KeptRows w (Kept col w) i rws[i]) ∧ ls.length % 4 = 0 ∧ rws.length % 4 = 0 ∧ ls.length ≤ 4000 * s ∧ rws.length ≤ 4 * s
  tabs : ∀ i (h : i < Ts.length), Pair w (fun b => col b = 3 + i) Ts[i].bt Ts[i].br Ts[i].ks Ts[i].rows ∧ GoodK Ts[i].ks ∧ GoodR Ts[i].ks Ts[i].rows
  few : Ts.length ≤ s + 1

theorem KeptRow.mono {w : World} {P P' : Nat → Prop} {i : Nat} {v : Value} (h : KeptRow w P i v) (hP : ∀ b, P b → P' b) : KeptRow w P' i v := h.keep hP (fun _ _ => rfl)
theorem KeptRows.mono {w : World} {P P' : Nat → Prop} {i : Nat} {v : Value} (h : KeptRows w P i v) (hP : ∀ b, P b → P' b) : KeptRows w P' i v := h.keep hP (fun _ _ => rfl)

/-- One table's blocks turned, and new ones came. -/
theorem WorldOK.turn {w w' : World} {wb : Nat} {col : Nat → Nat} {Ts : List Tbl} {s : Nat} (h : WorldOK w wb col Ts s) (i : Nat) (hi : i < Ts.length) (rows' : List (List (Int × ByteArray))) (hP : Pair w' (fun b => col b = 3 + i ∨ w.heap.size ≤ b) Ts[i].bt Ts[i].br Ts[i].ks rows') (hF : FrS (fun b => col b = 3 + i) w w') (hg : GoodR Ts[i].ks rows') :
    WorldOK w' wb (fun b => if b < w.heap.size then col b else 3 + i) (Ts.set i { Ts[i] with rows := rows' }) s := by
  obtain ⟨tv, rv, lv, ov, ls, rws, hb, hc, kl, kr, l4, r4, lb, rb⟩ := h.ex
  have blk : ∀ b, b < w.heap.size → col b ≠ 3 + i → w'.heap[b]? = w.heap[b]? := fun b hb hn => hF.block b hb hn
  have hz := hF.size
  have hbl : ∀ k, (k = wb ∨ ∃ v ∈ [tv, rv, lv, ov], v.ownBlock = some k) → k < w.heap.size ∧ col k = 2 := fun k hk => ⟨hb.lt k hk, by
    rcases hk with rfl | ⟨v, hv, e⟩
    · exact h.wbc
    · exact hc v hv k e⟩
  have eT : (Ts.set i { Ts[i] with rows := rows' }).map Tbl.pt = Ts.map Tbl.pt := by
    rw [List.map_set]
    apply List.ext_getElem
    · simp
    · intro j h1 h2
      rw [List.getElem_set]
      split
      · rename_i e; subst e; rw [List.getElem_map]; rfl
      · rfl
  have eR : (Ts.set i { Ts[i] with rows := rows' }).map Tbl.pr = Ts.map Tbl.pr := by
    rw [List.map_set]
    apply List.ext_getElem
    · simp
    · intro j h1 h2
      rw [List.getElem_set]
      split
      · rename_i e; subst e; rw [List.getElem_map]; rfl
      · rfl
  have kept : ∀ b, Kept col w b → Kept (fun b => if b < w.heap.size then col b else 3 + i) w' b := fun b hb => ⟨by show (if b < w.heap.size then col b else 3 + i) = 1; rw [if_pos hb.2]; exact hb.1, by have := hb.2; omega⟩
  have keptB : ∀ b, Kept col w b → w'.heap[b]? = w.heap[b]? := fun b hb => blk b hb.2 (by rw [hb.1]; omega)
  refine ⟨?_, ⟨tv, rv, lv, ov, ls, rws, ?_, ?_, ?_, ?_, l4, r4, lb, rb⟩, ?_, by simpa using h.few⟩
  · show (if wb < w.heap.size then col wb else 3 + i) = 2
    rw [if_pos (hbl wb (.inl rfl)).1]; exact h.wbc
  · rw [eT, eR]
    exact hb.keep (fun k hk => blk k (hbl k hk).1 (by rw [(hbl k hk).2]; omega))
  · intro v hv g hg
    show (if g < w.heap.size then col g else 3 + i) = 2
    rw [if_pos (hbl g (.inr ⟨v, hv, hg⟩)).1]; exact hc v hv g hg
  · exact fun j hj => (kl j hj).keep kept keptB
  · exact fun j hj => (kr j hj).keep kept keptB
  · intro j hj
    have hj' : j < Ts.length := by simpa using hj
    by_cases e : i = j
    · subst e
      rw [List.getElem_set_self]
      refine ⟨hP.keep (Nat.le_refl _) (fun k hk hs => ?_) (fun _ _ _ => rfl), (h.tabs i hi).2.1, hg⟩
      show (if k < w.heap.size then col k else 3 + i) = 3 + i
      rcases hs with hs | hs
      · split
        · exact hs
        · rfl
      · rw [if_neg (by omega)]
    · rw [List.getElem_set_ne e]
      obtain ⟨p1, p2, p3⟩ := h.tabs j hj'
      refine ⟨p1.keep hz (fun k hk hs => ?_) (fun k hk hs => blk k hk (by rw [hs]; omega)), p2, p3⟩
      show (if k < w.heap.size then col k else 3 + i) = 3 + j
      rw [if_pos hk]; exact hs

theorem WorldOK.apart {w w5 : World} {wb : Nat} {col : Nat → Nat} {Ts : List Tbl} {s : Nat} (h : WorldOK w wb col Ts s) {F : List Value} (hc : ∀ v ∈ F, ∀ g, v.ownBlock = some g → col g = 2) (z : w.heap.size ≤ w5.heap.size) : Apart w5 wb F (Kept col w) :=
  ⟨fun b hb => Nat.lt_of_lt_of_le hb.2 z, fun b hb e => by subst e; have := hb.1; rw [h.wbc] at this; omega, fun b hb v hv e => by have h1 := hc v hv b e; have h2 := hb.1; omega⟩

open Classical in
/-- A Scan's rows came out and stand in the book. -/
theorem WorldOK.kept {w w5 w6 : World} {wb : Nat} {col : Nat → Nat} {Ts : List Tbl} {s : Nat} {tv rv lv ov v : Value} {ls rws : List Value} {M : List (Nat × List (Int × ByteArray))} (h : WorldOK w wb col Ts s) (hb : BookAt w wb [tv, rv, lv, ov] [Ts.map Tbl.pt, Ts.map Tbl.pr, ls, rws])
    (hc : ∀ v ∈ [tv, rv, lv, ov], ∀ g, v.ownBlock = some g → col g = 2) (l4 : ls.length % 4 = 0) (r4 : rws.length % 4 = 0) (lb : ls.length ≤ 4000 * s) (rb : rws.length ≤ 4 * s) (h5 : FrS (fun _ => False) w w5) (hM : ∀ p ∈ M, w.heap.size ≤ p.1) (hv : ∀ g, v.ownBlock = some g → w.heap.size ≤ g) (hMl : M.length ≤ 1000)
    (hk : KeepPost w5 w6 wb tv rv lv ov (Ts.map Tbl.pt) (Ts.map Tbl.pr) ls rws (Kept col w) M v) :
    ∃ col', WorldOK w6 wb col' Ts (s + 1) ∧ (∀ b, b < w.heap.size → col' b = col b) ∧ FrS (fun b => col b ≠ 0) w w6 := by
  obtain ⟨lv', ov', ls', rws', P', n1, n2, hb', hap, kl, kr, hPP, hP', hF, gl, go⟩ := hk
  have z5 := h5.size
  have z6 := hF.size
  have b5 : ∀ b, b < w.heap.size → w5.heap[b]? = w.heap[b]? := fun b hb => h5.block b hb (fun h => h)
  have nin : ∀ b, b < w.heap.size → col b ≠ 2 → b ∉ (wb :: (lv.ownBlock.toList ++ (ov.ownBlock.toList ++ (M.map Prod.fst ++ v.ownBlock.toList)))) := fun b hlt hn hm => by
    simp only [List.mem_cons, List.mem_append, Option.mem_toList, List.mem_map] at hm
    rcases hm with e | e | e | ⟨p, hp, e⟩ | e
    · rw [e] at hn; exact hn h.wbc
    · exact hn (hc lv (by simp) b e)
    · exact hn (hc ov (by simp) b e)
    · have := hM p hp; omega
    · have := hv b e; omega
  have b6 : ∀ b, b < w.heap.size → col b ≠ 2 → w6.heap[b]? = w.heap[b]? := fun b hlt hn => (hF.block b (by omega) (nin b hlt hn)).trans (b5 b hlt)
  have old : ∀ b, b < w.heap.size → P' b → col b = 1 := fun b hlt hp => by
    rcases hP' b hp with e | e | ⟨p, hp, e⟩ | e
    · exact e.1
    · omega
    · have := hM p hp; omega
    · have := hv b e; omega
  refine ⟨fun b => if b < w.heap.size then col b else if P' b then 1 else 2, ⟨?_, ⟨tv, rv, lv', ov', ls', rws', hb', ?_, ?_, ?_, by omega, by omega, by omega, by omega⟩, ?_, by have := h.few; omega⟩, fun b hlt => if_pos hlt, ?_⟩
  · show (if wb < w.heap.size then col wb else _) = 2
    rw [if_pos (hb.lt wb (.inl rfl))]; exact h.wbc
  · intro u hu g hg
    show (if g < w.heap.size then col g else if P' g then 1 else 2) = 2
    have hn : ¬ P' g := fun hp => hap.own g hp u hu hg
    by_cases hlt : g < w.heap.size
    · rw [if_pos hlt]
      simp only [List.mem_cons, List.not_mem_nil, or_false] at hu
      rcases hu with rfl | rfl | rfl | rfl
      · exact hc u (by simp) g hg
      · exact hc u (by simp) g hg
      · rcases gl g hg with e | e
        · exact hc lv (by simp) g e
        · omega
      · rcases go g hg with e | e
        · exact hc ov (by simp) g e
        · omega
    · rw [if_neg hlt, if_neg hn]
  · refine fun i hi => (kl i hi).mono (fun b hp => ⟨?_, hap.lt b hp⟩)
    show (if b < w.heap.size then col b else if P' b then 1 else 2) = 1
    split
    · exact old b ‹_› hp
    · rfl
  · refine fun i hi => (kr i hi).mono (fun b hp => ⟨?_, hap.lt b hp⟩)
    show (if b < w.heap.size then col b else if P' b then 1 else 2) = 1
    split
    · exact old b ‹_› hp
    · rfl
  · intro i hi
    obtain ⟨p1, p2, p3⟩ := h.tabs i hi
    refine ⟨p1.keep (by omega) (fun k hk hs => ?_) (fun k hk hs => b6 k hk (by rw [hs]; omega)), p2, p3⟩
    show (if k < w.heap.size then col k else _) = 3 + i
    rw [if_pos hk]; exact hs
  · exact ⟨hF.os.trans h5.os, hF.tape.trans h5.tape, hF.output.trans h5.output, by omega, fun b hlt hn => b6 b hlt (by simp at hn; omega)⟩

/-- The lists of tables are as they were. -/
def BookSame (wb : Nat) (w w' : World) : Prop :=
  (∀ o v, o < 2 → w.cell? ⟨wb, o, none⟩ = some v → w'.cell? ⟨wb, o, none⟩ = some v) ∧ (∀ o v g, o < 2 → w.cell? ⟨wb, o, none⟩ = some v → v.ownBlock = some g → g < w.heap.size → w'.heap[g]? = w.heap[g]?)

theorem BookSame.refl (wb : Nat) (w : World) : BookSame wb w w := ⟨fun _ _ _ h => h, fun _ _ _ _ _ _ _ => rfl⟩
theorem BookSame.trans {wb : Nat} {a b c : World} (h : BookSame wb a b) (k : BookSame wb b c) (hz : a.heap.size ≤ b.heap.size) : BookSame wb a c :=
  ⟨fun o v ho hv => k.1 o v ho (h.1 o v ho hv), fun o v g ho hv hg hl => (k.2 o v g ho (h.1 o v ho hv) hg (by omega)).trans (h.2 o v g ho hv hg hl)⟩
theorem BookSame.of_same {wb : Nat} {a b : World} (h : FrS (fun _ => False) a b) : BookSame wb a b :=
  ⟨fun o _ _ hv => (World.cell?_of_block (w := a) (a := ⟨wb, o, none⟩) (h.block wb (World.block_lt_of_cell? a ⟨wb, o, none⟩ hv) (fun h => h))).trans hv, fun _ _ g _ _ _ hl => h.block g hl (fun h => h)⟩

theorem BookAt.two {w : World} {wb : Nat} {tv rv lv ov : Value} {X : List (List Value)} (hb : BookAt w wb [tv, rv, lv, ov] X) {o : Nat} {v : Value} (ho : o < 2) (hv : w.cell? ⟨wb, o, none⟩ = some v) : (o = 0 ∧ v = tv) ∨ (o = 1 ∧ v = rv) := by
  have h2 : o = 0 ∨ o = 1 := by omega
  rcases h2 with rfl | rfl
  · rw [cell_of_row _ _ _ _ _ _ hb.blk] at hv
    left; exact ⟨rfl, by simpa using hv.symm⟩
  · rw [cell_of_row _ _ _ _ _ _ hb.blk] at hv
    right; exact ⟨rfl, by simpa using hv.symm⟩

theorem WorldOK.bookSame {w w' : World} {wb : Nat} {col : Nat → Nat} {Ts : List Tbl} {s i : Nat} (h : WorldOK w wb col Ts s) (hF : FrS (fun b => col b = 3 + i) w w') : BookSame wb w w' := by
  obtain ⟨tv, rv, lv, ov, ls, rws, hb, hc, _⟩ := h.ex
  have hwb := hb.lt wb (.inl rfl)
  refine ⟨fun o _ _ hv => (World.cell?_of_block (w := w) (a := ⟨wb, o, none⟩) (hF.block wb hwb (by rw [h.wbc]; omega))).trans hv, fun o v g ho hv hg hl => hF.block g hl ?_⟩
  have : col g = 2 := by
    rcases hb.two ho hv with ⟨_, rfl⟩ | ⟨_, rfl⟩
    · exact hc v (by simp) g hg
    · exact hc v (by simp) g hg
  rw [this]; omega

theorem keep_bookSame {w w5 w6 : World} {wb : Nat} {tv rv lv ov v : Value} {ts rs ls rws : List Value} {P : Nat → Prop} {M : List (Nat × List (Int × ByteArray))} (hb : BookAt w wb [tv, rv, lv, ov] [ts, rs, ls, rws]) (h5 : FrS (fun _ => False) w w5) (hM : ∀ p ∈ M, w.heap.size ≤ p.1) (hv : ∀ g, v.ownBlock = some g → w.heap.size ≤ g)
    (hk : KeepPost w5 w6 wb tv rv lv ov ts rs ls rws P M v) : BookSame wb w w6 := by
  obtain ⟨lv', ov', ls', rws', P', n1, n2, hb', hap, kl, kr, hPP, hP', hF, gl, go⟩ := hk
  refine ⟨fun o u ho hu => ?_, fun o u g ho hu hg hl => ?_⟩
  · rcases hb.two ho hu with ⟨rfl, rfl⟩ | ⟨rfl, rfl⟩
    · rw [cell_of_row _ _ _ _ _ _ hb'.blk]; rfl
    · rw [cell_of_row _ _ _ _ _ _ hb'.blk]; rfl
  · obtain ⟨q, hq2, hq, cs, fr, hty⟩ : ∃ q, q < 2 ∧ (∀ k, k < 4 → fty q = fty k → q = k) ∧ ∃ cs fr, w.heap[g]? = some (.cells cs (fty q) fr) := by
      rcases hb.two ho hu with ⟨_, rfl⟩ | ⟨_, rfl⟩
      · exact ⟨0, by omega, fun k hk e => fty_inj 0 k (by omega) hk e, own_ty (hb.own 0 (by simp) (by simp)) hg⟩
      · exact ⟨1, by omega, fun k hk e => fty_inj 1 k (by omega) hk e, own_ty (hb.own 1 (by simp) (by simp)) hg⟩
    refine (hF.block g (by have := h5.size; omega) (fun hm => ?_)).trans (h5.block g hl (fun h => h))
    simp only [List.mem_cons, List.mem_append, Option.mem_toList, List.mem_map] at hm
    rcases hm with e | e | e | ⟨p, hp, e⟩ | e
    · rw [e, hb.blk] at hty
      simp at hty
      exact fty_ne q (by omega) hty.2.1.symm
    · obtain ⟨cs', fr', h'⟩ := own_ty (hb.own 2 (by simp) (by simp)) (g := g) e
      rw [hty] at h'
      simp at h'
      have := hq 2 (by omega) h'.2.1
      omega
    · obtain ⟨cs', fr', h'⟩ := own_ty (hb.own 3 (by simp) (by simp)) (g := g) e
      rw [hty] at h'
      simp at h'
      have := hq 3 (by omega) h'.2.1
      omega
    · have := hM p hp; omega
    · have := hv g e; omega

end Go.Proofs.YtcconhgbefhdeaaDoor

namespace Go.Proofs.YtcconhgbefhdeaaDoor
open Go.RowKit
attribute [local go_sem ↓] Go.wp_at_zero Go.wp_at_succ

/-- What a step of the script leaves. -/
def StepPost (wb : Nat) (col : Nat → Nat) (s : Nat) (w : World) (e : Ending) (w' : World) : Prop :=
  e = .returned (.bool true) ∧ ∃ col' Ts', WorldOK w' wb col' Ts' (s + 1) ∧ 0 < Ts'.length ∧ (∀ b, b < w.heap.size → col' b = col b) ∧ FrS (fun b => col b ≠ 0) w w' ∧ BookSame wb w w'

theorem lentT_length (T : List Tst) : (lentT T).length = T.length + 2 := by simp [lentT, padT]

theorem lentT_take (T : List Tst) : (tcells (lentT T)).take (4 * T.length) = tcells T := by
  rw [lentT, tcells_append, List.take_append_of_le_length (by rw [tcells_length]; omega), List.take_of_length_le (by rw [tcells_length]; omega)]

theorem nodup_at {M : List (Nat × List (Int × ByteArray))} (h : (M.map Prod.fst).Nodup) (i j : Nat) (hi : i < M.length) (hj : j < M.length) (e : M[i].1 = M[j].1) : i = j := by
  have hp := List.pairwise_iff_getElem.1 h
  rcases Nat.lt_trichotomy i j with hl | hl | hl
  · have := hp i j (by simpa using hi) (by simpa using hj) hl
    simp [e] at this
  · exact hl
  · have := hp j i (by simpa using hj) (by simpa using hi) hl
    simp [e] at this

set_option maxRecDepth 100000 in
set_option maxHeartbeats 2000000 in
theorem scans_scan (wb : Nat) (col : Nat → Nat) (Ts : List Tbl) (s i : Nat) (hi : i < Ts.length) (oat oc on om : Int) (sch row : Value) (ta : Option Addr) (tcap : Nat) (T : List Tst) (w : World) (hE : ErrType w) (h : WorldOK w wb col Ts s) (hs : s ≤ 9000000) (hT : TestsA w ta T) (htg : TstRg T) (hl : T.length ≤ 9000000) :
    Calls Tryd.prog 42 #[.pointer (some ⟨wb, 0, none⟩), .pointer (some ⟨Ts[i].bt, 0, none⟩), .pointer (some ⟨Ts[i].br, 0, none⟩), .agg #[.int .i64 3, .int .i64 oat, .int .i64 oc, .int .i64 on, sch, row, .slice ta T.length tcap, .int .i64 om]] w (StepPost wb col s w) := by
  obtain ⟨hP, hg, hr⟩ := h.tabs i hi
  obtain ⟨U, U', hTab, hRef, _, _, _⟩ := hP.ex
  obtain ⟨tv, rv, lv, ov, ls, rws, hb, hc, kl, kr, l4, r4, lb, rb⟩ := h.ex
  have HW : Hid (WorldOK w wb col Ts s) := h
  have HTB : Hid (TabOK w U Ts[i].bt Ts[i].ks Ts[i].rows) := hTab
  have HRF : Hid (RefOK w U' Ts[i].br Ts[i].ks Ts[i].rows) := hRef
  have HB : Hid (BookAt w wb [tv, rv, lv, ov] [Ts.map Tbl.pt, Ts.map Tbl.pr, ls, rws]) := hb
  have HC : Hid (∀ v ∈ [tv, rv, lv, ov], ∀ g, v.ownBlock = some g → col g = 2) := hc
  have KL : Hid (∀ i (h : i < ls.length), KeptRow w (Kept col w) i ls[i]) := kl
  have KR : Hid (∀ i (h : i < rws.length), KeptRows w (Kept col w) i rws[i]) := kr
  have HLL : Hid (ls.length % 4 = 0 ∧ rws.length % 4 = 0 ∧ ls.length ≤ 4000 * s ∧ rws.length ≤ 4 * s) := ⟨l4, r4, lb, rb⟩
  have HI : Hid (i < Ts.length) := hi
  have HTA : Hid (TestsA w ta T) := hT
  clear h hP hTab hRef hb hc kl kr l4 r4 lb rb hT
  have hTs : Hid (0 < Ts.length) := by unfold Hid; omega
  generalize Ts[i].bt = bt at *
  generalize Ts[i].br = br at *
  generalize Ts[i].ks = ks at *
  generalize Ts[i].rows = rows at *
  clear hi
  have hq : ∀ (W : World) (a : Option Addr) (n c n' c' : Nat), (binOp .eql 26 (.slice a n c) (.slice none n' c')).run Tryd.prog W = .ok (.bool (a.isNone)) W := fun W a n c n' c' => Lib.run_eql_slice_nil W _ _ a n c n' c' Tryd.underlying26
  go_enter Tryd.func42, Tryd.ntmps42
  go_wp2_with fail
  have b0 := (Below.refl w.heap.size w).alloc (Nat.le_refl _) (.cells #[.int .i64 3, .int .i64 oat, .int .i64 oc, .int .i64 on, sch, row, .slice ta T.length tcap, .int .i64 om] 28)
  have hblk := heap_alloc_new w (.cells #[.int .i64 3, .int .i64 oat, .int .i64 oc, .int .i64 on, sch, row, .slice ta T.length tcap, .int .i64 om] 28)
  generalize w.alloc (.cells #[.int .i64 3, .int .i64 oat, .int .i64 oc, .int .i64 on, sch, row, .slice ta T.length tcap, .int .i64 om] 28) = w0 at *
  have z0 : w.heap.size < w0.heap.size := (Array.getElem?_eq_some_iff.1 hblk).1
  have o0 : w0.cell? ⟨w.heap.size, 0, none⟩ = some (.int .i64 3) := by rw [cell_of_row _ _ _ _ _ _ hblk]; rfl
  have o6 : w0.cell? ⟨w.heap.size, 6, none⟩ = some (.slice ta T.length tcap) := by rw [cell_of_row _ _ _ _ _ _ hblk]; rfl
  clear hblk
  refine (tests_any ta tcap T w0 (HTA.out.keep (fun k hk => b0.block k hk)) hl).mono ?_
  rintro e w1 ⟨rfl, hA, b1⟩
  have z1 : w0.heap.size < w1.heap.size := (Array.getElem?_eq_some_iff.1 hA).1
  have HA : Hid (w1.heap[w0.heap.size]? = some (.cells (tcells (lentT T)).toArray 32 (0, 0))) := hA
  clear hA
  have p6 : w1.cell? ⟨w.heap.size, 6, none⟩ = some (.slice ta T.length tcap) := (b1.cell (p := ⟨w.heap.size, 6, none⟩) z0).trans o6
  have i0 : (0 : Int) ≤ (T.length : Int) := by omega
  have i1 : (T.length : Int) ≤ (T.length : Int) + 2 := by omega
  have hra : ta = none ∨ ∃ a, ta = some a := by cases ta; exact .inl rfl; exact .inr ⟨_, rfl⟩
  rcases hra with rfl | ⟨a, rfl⟩
  rotate_left
  · go_wp2_with fail
    refine (tests_any _ tcap T w1 (HTA.out.keep (fun k hk => (b1.block k (by omega)).trans (b0.block k hk))) hl).mono ?_
    rintro e w2 ⟨rfl, hW, b2⟩
    have HWn : Hid (w2.heap[w1.heap.size]? = some (.cells (tcells (lentT T)).toArray 32 (0, 0))) := hW
    clear hW
    have c0 : w2.cell? ⟨w.heap.size, 0, none⟩ = some (.int .i64 3) := (b2.cell (p := ⟨w.heap.size, 0, none⟩) (show w.heap.size < _ by omega)).trans ((b1.cell (p := ⟨w.heap.size, 0, none⟩) z0).trans o0)
    have c6 : w2.cell? ⟨w.heap.size, 6, none⟩ = some (.slice (some a) T.length tcap) := (b2.cell (p := ⟨w.heap.size, 6, none⟩) (show w.heap.size < _ by omega)).trans p6
    go_wp2_with fail
    refine (tabScans_any U bt ks rows (T.length + 2) (some ⟨w0.heap.size, 0, none⟩) T w2 (((hE.below b0).below b1).below b2) (HTB.out.keep (fun _ h => h) (fun k hk _ => (b2.block k (by omega)).trans ((b1.block k (by omega)).trans (b0.block k hk)))) hg hr (.inr ⟨_, rfl, TestsIn.of_cells ((b2.block _ z1).trans HA.out) (lentT_take T)⟩)).mono ?_
    rintro e w3 ⟨v, ev, M, rfl, herr, hM, hMe, b3, hnd⟩
    obtain ⟨la, lc, rfl, hMin⟩ := hM.rowsIn
    have HM : Hid (RowsAt w3 w2.heap.size (.slice la M.length lc) M) := hM
    have HMI : Hid (RowsIn w3 la M) := hMin
    have HME : Hid (M.map Prod.snd = scanRows ks rows T) := hMe
    have HND : Hid ((M.map Prod.fst).Nodup) := hnd
    have z3 := b3.size
    have z2 := b2.size
    clear hM hMin hMe hnd
    go_wp2_with fail
    refine (lawFault_any ev _ _ w3 herr).mono ?_
    rintro e _ ⟨rfl, n, rfl⟩
    have d6 : (w3.drewN n).cell? ⟨w.heap.size, 6, none⟩ = some (.slice (some a) T.length tcap) := (b3.cell (p := ⟨w.heap.size, 6, none⟩) (show w.heap.size < _ by omega)).trans c6
    have hold : ∀ k, k < w.heap.size → (w3.drewN n).heap[k]? = w.heap[k]? := fun k hk => (b3.block k (by omega)).trans ((b2.block k (by omega)).trans ((b1.block k (by omega)).trans (b0.block k hk)))
    have HOLD : Hid (∀ k, k < w.heap.size → (w3.drewN n).heap[k]? = w.heap[k]?) := hold
    clear hold
    go_wp2_with fail
    refine (refScans_any U' br ks rows tcap (some a) T (w3.drewN n) (HRF.out.keep (fun _ h => h) (fun k hk _ => HOLD.out k hk)) hg hr (HTA.out.keep (fun k hk => HOLD.out k hk)) htg).mono ?_
    rintro e w4 ⟨mv, R, rfl, hR, hRe, b4⟩
    have hlr : R.length = M.length := by
      have h1 := congrArg List.length HME.out
      have h2 := congrArg List.length hRe
      simp only [List.length_map] at h1 h2
      omega
    obtain ⟨ma, mc, hmv, hRc⟩ : ∃ ma mc, mv = .slice ma M.length mc ∧ ∀ k (hk : k < M.length), ∃ g, ma = some ⟨g, 0, none⟩ ∧ ∃ p : RRow, w4.cell? ⟨g, k, none⟩ = some (.slice (some ⟨p.g, 0, none⟩) M[k].2.length p.cap) ∧ RowIn w4 p.g M[k].2 := by
      by_cases h0 : 0 < R.length
      · obtain ⟨fg, cp, hv, _, _, hcc⟩ := hR.cell h0
        refine ⟨some ⟨fg, 0, none⟩, cp, by rw [hv, hlr], fun k hk => ⟨fg, rfl, R[k]'(by omega), ?_, ?_⟩⟩
        · have e := hcc k (by omega)
          have e2 : R[k].r = M[k].2 := by
            have h1 : (R.map RRow.r)[k]'(by simp; omega) = (M.map Prod.snd)[k]'(by simp; omega) := by simp only [hRe, HME.out]
            simpa using h1
          rw [e, rrval, e2]
        · have e2 : R[k].r = M[k].2 := by
            have h1 : (R.map RRow.r)[k]'(by simp; omega) = (M.map Prod.snd)[k]'(by simp; omega) := by simp only [hRe, HME.out]
            simpa using h1
          rw [← e2]
          exact (hR.row _ (List.getElem_mem _)).2.1
      · rcases hR.own.2 with ⟨h1, h2⟩ | ⟨gg, cp, _, h1, _⟩
        · exact ⟨none, 0, by rw [h1]; congr 1; omega, fun k hk => by omega⟩
        · exact ⟨_, cp, by rw [h1, hlr], fun k hk => by omega⟩
    subst hmv
    have HRC : Hid (∀ k (hk : k < M.length), ∃ g, ma = some ⟨g, 0, none⟩ ∧ ∃ p : RRow, w4.cell? ⟨g, k, none⟩ = some (.slice (some ⟨p.g, 0, none⟩) M[k].2.length p.cap) ∧ RowIn w4 p.g M[k].2) := hRc
    have hMC : ∀ k (hk : k < M.length), ∃ g, la = some ⟨g, 0, none⟩ ∧ w4.cell? ⟨g, k, none⟩ = some (.slice (some ⟨M[k].1, 0, none⟩) M[k].2.length M[k].2.length) ∧ RowIn w4 M[k].1 M[k].2 := fun k hk => by
      rcases HMI.out.at' with h0 | ⟨g, hla, hcc⟩
      · rw [h0] at hk; simp at hk
      · refine ⟨g, hla, ?_, ?_⟩
        · have e := hcc k hk
          exact (b4.cell (p := ⟨g, k, none⟩) (World.block_lt_of_cell? w3 ⟨g, k, none⟩ e)).trans e
        · have hrb := HMI.out.blk M[k] (List.getElem_mem hk)
          exact hrb.rowIn.keep (b4.block _ hrb.lt)
    have HMC : Hid (∀ k (hk : k < M.length), ∃ g, la = some ⟨g, 0, none⟩ ∧ w4.cell? ⟨g, k, none⟩ = some (.slice (some ⟨M[k].1, 0, none⟩) M[k].2.length M[k].2.length) ∧ RowIn w4 M[k].1 M[k].2) := hMC
    have hMl : M.length ≤ 1000 := by
      have h1 := congrArg List.length HME.out
      simp only [List.length_map] at h1
      have h2 := (scanRows_sub (ks := ks) (rows := rows) (T := T)).1
      have := hr.few
      omega
    have hM6 : ∀ p ∈ M, p.2.length ≤ 6 := fun p hp => by
      have h1 : p.2 ∈ scanRows ks rows T := by rw [← HME.out]; exact List.mem_map_of_mem hp
      have h2 := (hr.fit _ (scanRows_sub.2 _ h1)).1.1
      have := hg.six
      omega
    have HM6 : Hid (∀ p ∈ M, p.2.length ≤ 6) := hM6
    have HML : Hid (M.length ≤ 1000) := hMl
    clear hRc hMC hlr hR hRe hM6 hMl
    go_wp2_with fail
    go_loopw [19, 20] (fun o j wr => ∃ k : Nat, k ≤ M.length ∧ o = .bool true ∧ j = .int .i64 k ∧ ∃ q, wr = w4.drewN q) (fun _ j _ => M.length - (intOf j).toNat)
    case atStart => exact ⟨0, Nat.zero_le _, by simp, rfl, 0, rfl⟩
    case round =>
      obtain ⟨k, hk, rfl, rfl, q, rfl⟩ := hrel
      by_cases hlt : k < M.length
      · obtain ⟨lg, rfl, e1, e2⟩ := HMC.out k hlt
        obtain ⟨mg, rfl, p, e3, e4⟩ := HRC.out k hlt
        have hk6 := HM6.out M[k] (List.getElem_mem hlt)
        generalize M[k].1 = gx at *
        generalize M[k].2 = rx at *
        have i0 : (0 : Int) ≤ (k : Int) := by omega
        have i1 : (k : Int) < (M.length : Int) := by omega
        have HLT : Hid (k < M.length) := hlt
        have hML := HML.out
        have E2 : Hid (RowIn w4 gx rx) := e2
        have E4 : Hid (RowIn w4 p.g rx) := e4
        clear e2 e4
        go_wp2_with fail
        go_region_held3 (fun w' => w'.cell? ⟨lg, k, none⟩ = some (.slice (some ⟨gx, 0, none⟩) rx.length rx.length) ∧ w'.cell? ⟨mg, k, none⟩ = some (.slice (some ⟨p.g, 0, none⟩) rx.length p.cap)) (go_keep)
          (first | (go_at_call 40; refine (sameValues_eq gx p.g rx.length p.cap rx (w4.drewN (q + 1)) E2.out E4.out (by omega)).mono ?_; rintro e _ ⟨rfl, q', rfl⟩))
        go_wp2
        go_roundw
        case rel => exact ⟨k + 1, by have := HLT.out; omega, rfl, by go_num, q + 1 + q', by simp⟩
        case measure => have := HLT.out; simp [intOf]; omega
      · have i1 : ¬ (k : Int) < (M.length : Int) := by omega
        have hA4 : (w4.drewN q).heap[w0.heap.size]? = some (.cells (tcells (lentT T)).toArray 32 (0, 0)) := (b4.block _ (show w0.heap.size < w3.heap.size by omega)).trans ((b3.block _ (by omega)).trans ((b2.block _ z1).trans HA.out))
        have hW4 : (w4.drewN q).heap[w1.heap.size]? = some (.cells (tcells (lentT T)).toArray 32 (0, 0)) := by
          have zz := (Array.getElem?_eq_some_iff.1 HWn.out).1
          exact (b4.block _ (show w1.heap.size < w3.heap.size by omega)).trans ((b3.block _ (by omega)).trans HWn.out)
        have hst := sameTests_eq w0.heap.size w1.heap.size (T.length + 2) (T.length + 2) (lentT T) (w4.drewN q) hA4 (TestsIn.of_cells hW4 (by rw [← tcells_length, List.take_length])) (by omega) (by rw [lentT_length]; omega) (by rw [lentT_length]; omega)
        rw [lentT_length] at hst
        clear hA4 hW4
        go_wp2_with fail
        refine hst.mono ?_
        clear hst
        rintro e w5 ⟨rfl, f5⟩
        have z4 : w3.heap.size ≤ w4.heap.size := b4.size
        have z5 : w4.heap.size ≤ w5.heap.size := f5.size
        have h5 : FrS (fun _ => False) w w5 := by
          refine ⟨f5.os.trans (b4.os.trans (b3.os.trans (b2.os.trans (b1.os.trans b0.os)))), f5.tape.trans (b4.tape.trans (b3.tape.trans (b2.tape.trans (b1.tape.trans b0.tape)))), f5.output.trans (b4.output.trans (b3.output.trans (b2.output.trans (b1.output.trans b0.output)))), by omega, fun b hb _ => ?_⟩
          exact (f5.block b (show b < w4.heap.size by omega) (by simp; omega)).trans ((b4.block b (show b < w3.heap.size by omega)).trans (HOLD.out b hb))
        have hM5 : RowsAt w5 0 (.slice la M.length lc) M := by
          have h1 : RowsAt w5 w2.heap.size (.slice la M.length lc) M := HM.out.keepOn (fun b hb hf => by
            have hne : b ≠ w0.heap.size := by
              rcases hf with hf | ⟨p, hp, rfl⟩
              · have := (HM.out.own.lt b hf).1; omega
              · have := (HM.out.blk p hp).1; omega
            exact (f5.block b (show b < w4.heap.size by omega) (by simpa using hne)).trans (b4.block b hb))
          exact ⟨own_base h1.own, fun p hp => ⟨Nat.zero_le _, (h1.blk p hp).2⟩⟩
        have hMn : ∀ p ∈ M, w.heap.size ≤ p.1 := fun p hp => by have := (HM.out.blk p hp).1; omega
        have hvn : ∀ g, (Value.slice la M.length lc).ownBlock = some g → w.heap.size ≤ g := fun g hg => by have := (HM.out.own.lt g hg).1; omega
        obtain ⟨l4, r4, lb, rb⟩ := HLL.out
        have hkk := keep_ok wb tv rv lv ov (Ts.map Tbl.pt) (Ts.map Tbl.pr) ls rws (Kept col w) M (.slice la M.length lc) w5 (HB.out.keep (fun k hk => h5.block k (HB.out.lt k hk) (fun h => h))) hM5
          (nodup_at HND.out)
          (HW.out.apart HC.out h5.size) l4 (by omega) r4 (by omega) (by have := HML.out; omega) (fun p hp => by have := HM6.out p hp; omega)
          (fun i hi => (KL.out i hi).keep (fun _ h => h) (fun b hb => h5.block b hb.2 (fun h => h))) (fun i hi => (KR.out i hi).keep (fun _ h => h) (fun b hb => h5.block b hb.2 (fun h => h)))
          (fun p hp h => by have := hMn p hp; have := h.2; omega) (fun g hg h => by have := hvn g hg; have := h.2; omega)
          (fun g hg => ⟨fun e => by have := hvn g hg; have := HB.out.lt wb (.inl rfl); omega, fun u hu e => by have := hvn g hg; have := HB.out.lt g (.inr ⟨u, hu, e⟩); omega⟩)
        have HKK : Hid (∀ w6, KeepPost w5 w6 wb tv rv lv ov (Ts.map Tbl.pt) (Ts.map Tbl.pr) ls rws (Kept col w) M (.slice la M.length lc) → StepPost wb col s w (.returned (.bool true)) w6) := fun w6 hp => by
          obtain ⟨col', a1, a2, a3⟩ := HW.out.kept HB.out HC.out l4 r4 lb rb h5 hMn hvn HML.out hp
          exact ⟨rfl, col', Ts, a1, hTs.out, a2, a3, keep_bookSame HB.out h5 hMn hvn hp⟩
        clear h5 hM5 hMn hvn l4 r4 lb rb z4 z5
        go_wp2_with fail
        refine hkk.mono ?_
        clear hkk
        rintro e w6 ⟨rfl, hp⟩
        have HP : Hid (StepPost wb col s w (.returned (.bool true)) w6) := HKK.out w6 hp
        clear hp HKK
        go_wp2
        go_ret
        exact HP.out
  · go_wp2_with fail
    refine (tests_any _ tcap T w1 (HTA.out.keep (fun k hk => (b1.block k (by omega)).trans (b0.block k hk))) hl).mono ?_
    rintro e w2 ⟨rfl, hW, b2⟩
    have HWn : Hid (w2.heap[w1.heap.size]? = some (.cells (tcells (lentT T)).toArray 32 (0, 0))) := hW
    clear hW
    have c0 : w2.cell? ⟨w.heap.size, 0, none⟩ = some (.int .i64 3) := (b2.cell (p := ⟨w.heap.size, 0, none⟩) (show w.heap.size < _ by omega)).trans ((b1.cell (p := ⟨w.heap.size, 0, none⟩) z0).trans o0)
    have c6 : w2.cell? ⟨w.heap.size, 6, none⟩ = some (.slice none T.length tcap) := (b2.cell (p := ⟨w.heap.size, 6, none⟩) (show w.heap.size < _ by omega)).trans p6
    go_wp2_with fail
    have HT0 : Hid (T = []) := by
      rcases HTA.out with h | ⟨g, zo, h, _⟩
      · exact h
      · cases h
    have hts := tabScans_any U bt ks rows 0 none T w2 (((hE.below b0).below b1).below b2) (HTB.out.keep (fun _ h => h) (fun k hk _ => (b2.block k (by omega)).trans ((b1.block k (by omega)).trans (b0.block k hk)))) hg hr (.inl HT0.out)
    rw [show T.length = 0 by rw [HT0.out]; rfl] at hts
    refine hts.mono ?_
    clear hts
    rintro e w3 ⟨v, ev, M, rfl, herr, hM, hMe, b3, hnd⟩
    obtain ⟨la, lc, rfl, hMin⟩ := hM.rowsIn
    have HM : Hid (RowsAt w3 w2.heap.size (.slice la M.length lc) M) := hM
    have HMI : Hid (RowsIn w3 la M) := hMin
    have HME : Hid (M.map Prod.snd = scanRows ks rows T) := hMe
    have HND : Hid ((M.map Prod.fst).Nodup) := hnd
    have z3 := b3.size
    have z2 := b2.size
    clear hM hMin hMe hnd
    go_wp2_with fail
    refine (lawFault_any ev _ _ w3 herr).mono ?_
    rintro e _ ⟨rfl, n, rfl⟩
    have d6 : (w3.drewN n).cell? ⟨w.heap.size, 6, none⟩ = some (.slice none T.length tcap) := (b3.cell (p := ⟨w.heap.size, 6, none⟩) (show w.heap.size < _ by omega)).trans c6
    have hold : ∀ k, k < w.heap.size → (w3.drewN n).heap[k]? = w.heap[k]? := fun k hk => (b3.block k (by omega)).trans ((b2.block k (by omega)).trans ((b1.block k (by omega)).trans (b0.block k hk)))
    have HOLD : Hid (∀ k, k < w.heap.size → (w3.drewN n).heap[k]? = w.heap[k]?) := hold
    clear hold
    go_wp2_with fail
    refine (refScans_any U' br ks rows tcap none T (w3.drewN n) (HRF.out.keep (fun _ h => h) (fun k hk _ => HOLD.out k hk)) hg hr (HTA.out.keep (fun k hk => HOLD.out k hk)) htg).mono ?_
    rintro e w4 ⟨mv, R, rfl, hR, hRe, b4⟩
    have hlr : R.length = M.length := by
      have h1 := congrArg List.length HME.out
      have h2 := congrArg List.length hRe
      simp only [List.length_map] at h1 h2
      omega
    obtain ⟨ma, mc, hmv, hRc⟩ : ∃ ma mc, mv = .slice ma M.length mc ∧ ∀ k (hk : k < M.length), ∃ g, ma = some ⟨g, 0, none⟩ ∧ ∃ p : RRow, w4.cell? ⟨g, k, none⟩ = some (.slice (some ⟨p.g, 0, none⟩) M[k].2.length p.cap) ∧ RowIn w4 p.g M[k].2 := by
      by_cases h0 : 0 < R.length
      · obtain ⟨fg, cp, hv, _, _, hcc⟩ := hR.cell h0
        refine ⟨some ⟨fg, 0, none⟩, cp, by rw [hv, hlr], fun k hk => ⟨fg, rfl, R[k]'(by omega), ?_, ?_⟩⟩
        · have e := hcc k (by omega)
          have e2 : R[k].r = M[k].2 := by
            have h1 : (R.map RRow.r)[k]'(by simp; omega) = (M.map Prod.snd)[k]'(by simp; omega) := by simp only [hRe, HME.out]
            simpa using h1
          rw [e, rrval, e2]
        · have e2 : R[k].r = M[k].2 := by
            have h1 : (R.map RRow.r)[k]'(by simp; omega) = (M.map Prod.snd)[k]'(by simp; omega) := by simp only [hRe, HME.out]
            simpa using h1
          rw [← e2]
          exact (hR.row _ (List.getElem_mem _)).2.1
      · rcases hR.own.2 with ⟨h1, h2⟩ | ⟨gg, cp, _, h1, _⟩
        · exact ⟨none, 0, by rw [h1]; congr 1; omega, fun k hk => by omega⟩
        · exact ⟨_, cp, by rw [h1, hlr], fun k hk => by omega⟩
    subst hmv
    have HRC : Hid (∀ k (hk : k < M.length), ∃ g, ma = some ⟨g, 0, none⟩ ∧ ∃ p : RRow, w4.cell? ⟨g, k, none⟩ = some (.slice (some ⟨p.g, 0, none⟩) M[k].2.length p.cap) ∧ RowIn w4 p.g M[k].2) := hRc
    have hMC : ∀ k (hk : k < M.length), ∃ g, la = some ⟨g, 0, none⟩ ∧ w4.cell? ⟨g, k, none⟩ = some (.slice (some ⟨M[k].1, 0, none⟩) M[k].2.length M[k].2.length) ∧ RowIn w4 M[k].1 M[k].2 := fun k hk => by
      rcases HMI.out.at' with h0 | ⟨g, hla, hcc⟩
      · rw [h0] at hk; simp at hk
      · refine ⟨g, hla, ?_, ?_⟩
        · have e := hcc k hk
          exact (b4.cell (p := ⟨g, k, none⟩) (World.block_lt_of_cell? w3 ⟨g, k, none⟩ e)).trans e
        · have hrb := HMI.out.blk M[k] (List.getElem_mem hk)
          exact hrb.rowIn.keep (b4.block _ hrb.lt)
    have HMC : Hid (∀ k (hk : k < M.length), ∃ g, la = some ⟨g, 0, none⟩ ∧ w4.cell? ⟨g, k, none⟩ = some (.slice (some ⟨M[k].1, 0, none⟩) M[k].2.length M[k].2.length) ∧ RowIn w4 M[k].1 M[k].2) := hMC
    have hMl : M.length ≤ 1000 := by
      have h1 := congrArg List.length HME.out
      simp only [List.length_map] at h1
      have h2 := (scanRows_sub (ks := ks) (rows := rows) (T := T)).1
      have := hr.few
      omega
    have hM6 : ∀ p ∈ M, p.2.length ≤ 6 := fun p hp => by
      have h1 : p.2 ∈ scanRows ks rows T := by rw [← HME.out]; exact List.mem_map_of_mem hp
      have h2 := (hr.fit _ (scanRows_sub.2 _ h1)).1.1
      have := hg.six
      omega
    have HM6 : Hid (∀ p ∈ M, p.2.length ≤ 6) := hM6
    have HML : Hid (M.length ≤ 1000) := hMl
    clear hRc hMC hlr hR hRe hM6 hMl
    go_wp2_with fail
    go_loopw [19, 20] (fun o j wr => ∃ k : Nat, k ≤ M.length ∧ o = .bool true ∧ j = .int .i64 k ∧ ∃ q, wr = w4.drewN q) (fun _ j _ => M.length - (intOf j).toNat)
    case atStart => exact ⟨0, Nat.zero_le _, by simp, rfl, 0, rfl⟩
    case round =>
      obtain ⟨k, hk, rfl, rfl, q, rfl⟩ := hrel
      by_cases hlt : k < M.length
      · obtain ⟨lg, rfl, e1, e2⟩ := HMC.out k hlt
        obtain ⟨mg, rfl, p, e3, e4⟩ := HRC.out k hlt
        have hk6 := HM6.out M[k] (List.getElem_mem hlt)
        generalize M[k].1 = gx at *
        generalize M[k].2 = rx at *
        have i0 : (0 : Int) ≤ (k : Int) := by omega
        have i1 : (k : Int) < (M.length : Int) := by omega
        have HLT : Hid (k < M.length) := hlt
        have hML := HML.out
        have E2 : Hid (RowIn w4 gx rx) := e2
        have E4 : Hid (RowIn w4 p.g rx) := e4
        clear e2 e4
        go_wp2_with fail
        go_region_held3 (fun w' => w'.cell? ⟨lg, k, none⟩ = some (.slice (some ⟨gx, 0, none⟩) rx.length rx.length) ∧ w'.cell? ⟨mg, k, none⟩ = some (.slice (some ⟨p.g, 0, none⟩) rx.length p.cap)) (go_keep)
          (first | (go_at_call 40; refine (sameValues_eq gx p.g rx.length p.cap rx (w4.drewN (q + 1)) E2.out E4.out (by omega)).mono ?_; rintro e _ ⟨rfl, q', rfl⟩))
        go_wp2
        go_roundw
        case rel => exact ⟨k + 1, by have := HLT.out; omega, rfl, by go_num, q + 1 + q', by simp⟩
        case measure => have := HLT.out; simp [intOf]; omega
      · have i1 : ¬ (k : Int) < (M.length : Int) := by omega
        have hA4 : (w4.drewN q).heap[w0.heap.size]? = some (.cells (tcells (lentT T)).toArray 32 (0, 0)) := (b4.block _ (show w0.heap.size < w3.heap.size by omega)).trans ((b3.block _ (by omega)).trans ((b2.block _ z1).trans HA.out))
        have hW4 : (w4.drewN q).heap[w1.heap.size]? = some (.cells (tcells (lentT T)).toArray 32 (0, 0)) := by
          have zz := (Array.getElem?_eq_some_iff.1 HWn.out).1
          exact (b4.block _ (show w1.heap.size < w3.heap.size by omega)).trans ((b3.block _ (by omega)).trans HWn.out)
        have hst := sameTests_eq w0.heap.size w1.heap.size (T.length + 2) (T.length + 2) (lentT T) (w4.drewN q) hA4 (TestsIn.of_cells hW4 (by rw [← tcells_length, List.take_length])) (by omega) (by rw [lentT_length]; omega) (by rw [lentT_length]; omega)
        rw [lentT_length] at hst
        clear hA4 hW4
        go_wp2_with fail
        refine hst.mono ?_
        clear hst
        rintro e w5 ⟨rfl, f5⟩
        have z4 : w3.heap.size ≤ w4.heap.size := b4.size
        have z5 : w4.heap.size ≤ w5.heap.size := f5.size
        have h5 : FrS (fun _ => False) w w5 := by
          refine ⟨f5.os.trans (b4.os.trans (b3.os.trans (b2.os.trans (b1.os.trans b0.os)))), f5.tape.trans (b4.tape.trans (b3.tape.trans (b2.tape.trans (b1.tape.trans b0.tape)))), f5.output.trans (b4.output.trans (b3.output.trans (b2.output.trans (b1.output.trans b0.output)))), by omega, fun b hb _ => ?_⟩
          exact (f5.block b (show b < w4.heap.size by omega) (by simp; omega)).trans ((b4.block b (show b < w3.heap.size by omega)).trans (HOLD.out b hb))
        have hM5 : RowsAt w5 0 (.slice la M.length lc) M := by
          have h1 : RowsAt w5 w2.heap.size (.slice la M.length lc) M := HM.out.keepOn (fun b hb hf => by
            have hne : b ≠ w0.heap.size := by
              rcases hf with hf | ⟨p, hp, rfl⟩
              · have := (HM.out.own.lt b hf).1; omega
              · have := (HM.out.blk p hp).1; omega
            exact (f5.block b (show b < w4.heap.size by omega) (by simpa using hne)).trans (b4.block b hb))
          exact ⟨own_base h1.own, fun p hp => ⟨Nat.zero_le _, (h1.blk p hp).2⟩⟩
        have hMn : ∀ p ∈ M, w.heap.size ≤ p.1 := fun p hp => by have := (HM.out.blk p hp).1; omega
        have hvn : ∀ g, (Value.slice la M.length lc).ownBlock = some g → w.heap.size ≤ g := fun g hg => by have := (HM.out.own.lt g hg).1; omega
        obtain ⟨l4, r4, lb, rb⟩ := HLL.out
        have hkk := keep_ok wb tv rv lv ov (Ts.map Tbl.pt) (Ts.map Tbl.pr) ls rws (Kept col w) M (.slice la M.length lc) w5 (HB.out.keep (fun k hk => h5.block k (HB.out.lt k hk) (fun h => h))) hM5
          (nodup_at HND.out)
          (HW.out.apart HC.out h5.size) l4 (by omega) r4 (by omega) (by have := HML.out; omega) (fun p hp => by have := HM6.out p hp; omega)
          (fun i hi => (KL.out i hi).keep (fun _ h => h) (fun b hb => h5.block b hb.2 (fun h => h))) (fun i hi => (KR.out i hi).keep (fun _ h => h) (fun b hb => h5.block b hb.2 (fun h => h)))
          (fun p hp h => by have := hMn p hp; have := h.2; omega) (fun g hg h => by have := hvn g hg; have := h.2; omega)
          (fun g hg => ⟨fun e => by have := hvn g hg; have := HB.out.lt wb (.inl rfl); omega, fun u hu e => by have := hvn g hg; have := HB.out.lt g (.inr ⟨u, hu, e⟩); omega⟩)
        have HKK : Hid (∀ w6, KeepPost w5 w6 wb tv rv lv ov (Ts.map Tbl.pt) (Ts.map Tbl.pr) ls rws (Kept col w) M (.slice la M.length lc) → StepPost wb col s w (.returned (.bool true)) w6) := fun w6 hp => by
          obtain ⟨col', a1, a2, a3⟩ := HW.out.kept HB.out HC.out l4 r4 lb rb h5 hMn hvn HML.out hp
          exact ⟨rfl, col', Ts, a1, hTs.out, a2, a3, keep_bookSame HB.out h5 hMn hvn hp⟩
        clear h5 hM5 hMn hvn l4 r4 lb rb z4 z5
        go_wp2_with fail
        refine hkk.mono ?_
        clear hkk
        rintro e w6 ⟨rfl, hp⟩
        have HP : Hid (StepPost wb col s w (.returned (.bool true)) w6) := HKK.out w6 hp
        clear hp HKK
        go_wp2
        go_ret
        exact HP.out

end Go.Proofs.YtcconhgbefhdeaaDoor
