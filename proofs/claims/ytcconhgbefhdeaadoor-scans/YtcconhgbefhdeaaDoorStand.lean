import Derived.Test.YtcconhgbefhdeaaDoorPScan
import Derived.Test.YtcconhgbefhdeaaDoorApp
namespace Go.Proofs.YtcconhgbefhdeaaDoor
open Go.RowKit

/-- A table of the script's, and the document's. -/
structure Tbl where
  bt : Nat
  br : Nat
  ks : List Int
  rows : List (List (Int × ByteArray))

def Tbl.pt (t : Tbl) : Value := .pointer (some ⟨t.bt, 0, none⟩)
def Tbl.pr (t : Tbl) : Value := .pointer (some ⟨t.br, 0, none⟩)

/-- Blocks of colour 1 are the lists that came out. -/
def Kept (col : Nat → Nat) (w : World) (b : Nat) : Prop := col b = 1 ∧ b < w.heap.size

/-- How the script's World stands behind some steps: each block has a colour: 0: none of ours; 1: a list that came out; 2: the World's own; 3 + i: table i and the document's. -/
structure WorldOK (w : World) (wb : Nat) (col : Nat → Nat) (Ts : List Tbl) (s : Nat) : Prop where
  wbc : col wb = 2
  ex : ∃ tv rv lv ov ls rws, BookAt w wb [tv, rv, lv, ov] [Ts.map Tbl.pt, Ts.map Tbl.pr, ls, rws] ∧ (∀ v ∈ [tv, rv, lv, ov], ∀ g, v.ownBlock = some g → col g = 2) ∧
    (∀ i (h : i < ls.length), KeptRow w (Kept col w) i ls[i]) ∧ (∀ i (h : i < rws.length), KeptRows w (Kept col w) i rws[i]) ∧ ls.length % 4 = 0 ∧ rws.length % 4 = 0 ∧ ls.length ≤ 4000 * s ∧ rws.length ≤ 4 * s
  tabs : ∀ i (h : i < Ts.length), Pair w (fun b => col b = 3 + i) Ts[i].bt Ts[i].br Ts[i].ks Ts[i].rows ∧ GoodK Ts[i].ks ∧ GoodR Ts[i].ks Ts[i].rows
  few : Ts.length ≤ s + 1

theorem KeptRow.mono {w : World} {P P' : Nat → Prop} {i : Nat} {v : Value} (h : KeptRow w P i v) (hP : ∀ b, P b → P' b) : KeptRow w P' i v := h.keep hP (fun _ _ => rfl)
theorem KeptRows.mono {w : World} {P P' : Nat → Prop} {i : Nat} {v : Value} (h : KeptRows w P i v) (hP : ∀ b, P b → P' b) : KeptRows w P' i v := h.keep hP (fun _ _ => rfl)

/-- One table's blocks turned, and new ones came. -/
theorem WorldOK.turn {w w' : World} {wb : Nat} {col : Nat → Nat} {Ts : List Tbl} {s : Nat} (h : WorldOK w wb col Ts s) (i : Nat) (hi : i < Ts.length) (rows' : List (List (Int × ByteArray))) (hP : Pair w' (fun b => col b = 3 + i ∨ w.heap.size ≤ b) Ts[i].bt Ts[i].br Ts[i].ks rows') (hF : FrS (fun b => col b = 3 + i) w w') (hg : GoodR Ts[i].ks rows') :
    WorldOK w' wb (fun b => if b < w.heap.size then col b else 3 + i) (Ts.set i { Ts[i] with rows := rows' }) s := by
  obtain ⟨tv, rv, lv, ov, ls, rws, hb, hc, kl, kr, l4, r4, lb, rb⟩ := h.ex
  have blk : ∀ b, b < w.heap.size → col b ≠ 3 + i → w'.heap[b]? = w.heap[b]? := fun b hb hn => hF.block b hb hn
  have hz := hF.size
  have hbl : ∀ k, (k = wb ∨ ∃ v ∈ [tv, rv, lv, ov], v.ownBlock = some k) → k < w.heap.size ∧ col k = 2 := fun k hk => ⟨hb.lt k hk, by
    rcases hk with rfl | ⟨v, hv, e⟩
    · exact h.wbc
    · exact hc v hv k e⟩
  have eT : (Ts.set i { Ts[i] with rows := rows' }).map Tbl.pt = Ts.map Tbl.pt := by
    rw [List.map_set]
    apply List.ext_getElem
    · simp
    · intro j h1 h2
      rw [List.getElem_set]
      split
      · rename_i e; subst e; rw [List.getElem_map]; rfl
      · rfl
  have eR : (Ts.set i { Ts[i] with rows := rows' }).map Tbl.pr = Ts.map Tbl.pr := by
    rw [List.map_set]
    apply List.ext_getElem
    · simp
    · intro j h1 h2
      rw [List.getElem_set]
      split
      · rename_i e; subst e; rw [List.getElem_map]; rfl
      · rfl
  have kept : ∀ b, Kept col w b → Kept (fun b => if b < w.heap.size then col b else 3 + i) w' b := fun b hb => ⟨by show (if b < w.heap.size then col b else 3 + i) = 1; rw [if_pos hb.2]; exact hb.1, by have := hb.2; omega⟩
  have keptB : ∀ b, Kept col w b → w'.heap[b]? = w.heap[b]? := fun b hb => blk b hb.2 (by rw [hb.1]; omega)
  refine ⟨?_, ⟨tv, rv, lv, ov, ls, rws, ?_, ?_, ?_, ?_, l4, r4, lb, rb⟩, ?_, by simpa using h.few⟩
  · show (if wb < w.heap.size then col wb else 3 + i) = 2
    rw [if_pos (hbl wb (.inl rfl)).1]; exact h.wbc
  · rw [eT, eR]
    exact hb.keep (fun k hk => blk k (hbl k hk).1 (by rw [(hbl k hk).2]; omega))
  · intro v hv g hg
    show (if g < w.heap.size then col g else 3 + i) = 2
    rw [if_pos (hbl g (.inr ⟨v, hv, hg⟩)).1]; exact hc v hv g hg
  · exact fun j hj => (kl j hj).keep kept keptB
  · exact fun j hj => (kr j hj).keep kept keptB
  · intro j hj
    have hj' : j < Ts.length := by simpa using hj
    by_cases e : i = j
    · subst e
      rw [List.getElem_set_self]
      refine ⟨hP.keep (Nat.le_refl _) (fun k hk hs => ?_) (fun _ _ _ => rfl), (h.tabs i hi).2.1, hg⟩
      show (if k < w.heap.size then col k else 3 + i) = 3 + i
      rcases hs with hs | hs
      · split
        · exact hs
        · rfl
      · rw [if_neg (by omega)]
    · rw [List.getElem_set_ne e]
      obtain ⟨p1, p2, p3⟩ := h.tabs j hj'
      refine ⟨p1.keep hz (fun k hk hs => ?_) (fun k hk hs => blk k hk (by rw [hs]; omega)), p2, p3⟩
      show (if k < w.heap.size then col k else 3 + i) = 3 + j
      rw [if_pos hk]; exact hs

theorem WorldOK.apart {w w5 : World} {wb : Nat} {col : Nat → Nat} {Ts : List Tbl} {s : Nat} (h : WorldOK w wb col Ts s) {F : List Value} (hc : ∀ v ∈ F, ∀ g, v.ownBlock = some g → col g = 2) (z : w.heap.size ≤ w5.heap.size) : Apart w5 wb F (Kept col w) :=
  ⟨fun b hb => Nat.lt_of_lt_of_le hb.2 z, fun b hb e => by subst e; have := hb.1; rw [h.wbc] at this; omega, fun b hb v hv e => by have h1 := hc v hv b e; have h2 := hb.1; omega⟩

open Classical in
/-- A Scan's rows came out and stand in the book. -/
theorem WorldOK.kept {w w5 w6 : World} {wb : Nat} {col : Nat → Nat} {Ts : List Tbl} {s : Nat} {tv rv lv ov v : Value} {ls rws : List Value} {M : List (Nat × List (Int × ByteArray))} (h : WorldOK w wb col Ts s) (hb : BookAt w wb [tv, rv, lv, ov] [Ts.map Tbl.pt, Ts.map Tbl.pr, ls, rws])
    (hc : ∀ v ∈ [tv, rv, lv, ov], ∀ g, v.ownBlock = some g → col g = 2) (l4 : ls.length % 4 = 0) (r4 : rws.length % 4 = 0) (lb : ls.length ≤ 4000 * s) (rb : rws.length ≤ 4 * s) (h5 : FrS (fun _ => False) w w5) (hM : ∀ p ∈ M, w.heap.size ≤ p.1) (hv : ∀ g, v.ownBlock = some g → w.heap.size ≤ g) (hMl : M.length ≤ 1000)
    (hk : KeepPost w5 w6 wb tv rv lv ov (Ts.map Tbl.pt) (Ts.map Tbl.pr) ls rws (Kept col w) M v) :
    ∃ col', WorldOK w6 wb col' Ts (s + 1) ∧ (∀ b, b < w.heap.size → col' b = col b) ∧ FrS (fun b => col b ≠ 0) w w6 := by
  obtain ⟨lv', ov', ls', rws', P', n1, n2, hb', hap, kl, kr, hPP, hP', hF, gl, go⟩ := hk
  have z5 := h5.size
  have z6 := hF.size
  have b5 : ∀ b, b < w.heap.size → w5.heap[b]? = w.heap[b]? := fun b hb => h5.block b hb (fun h => h)
  have nin : ∀ b, b < w.heap.size → col b ≠ 2 → b ∉ (wb :: (lv.ownBlock.toList ++ (ov.ownBlock.toList ++ (M.map Prod.fst ++ v.ownBlock.toList)))) := fun b hlt hn hm => by
    simp only [List.mem_cons, List.mem_append, Option.mem_toList, List.mem_map] at hm
    rcases hm with e | e | e | ⟨p, hp, e⟩ | e
    · rw [e] at hn; exact hn h.wbc
    · exact hn (hc lv (by simp) b e)
    · exact hn (hc ov (by simp) b e)
    · have := hM p hp; omega
    · have := hv b e; omega
  have b6 : ∀ b, b < w.heap.size → col b ≠ 2 → w6.heap[b]? = w.heap[b]? := fun b hlt hn => (hF.block b (by omega) (nin b hlt hn)).trans (b5 b hlt)
  have old : ∀ b, b < w.heap.size → P' b → col b = 1 := fun b hlt hp => by
    rcases hP' b hp with e | e | ⟨p, hp, e⟩ | e
    · exact e.1
    · omega
    · have := hM p hp; omega
    · have := hv b e; omega
  refine ⟨fun b => if b < w.heap.size then col b else if P' b then 1 else 2, ⟨?_, ⟨tv, rv, lv', ov', ls', rws', hb', ?_, ?_, ?_, by omega, by omega, by omega, by omega⟩, ?_, by have := h.few; omega⟩, fun b hlt => if_pos hlt, ?_⟩
  · show (if wb < w.heap.size then col wb else _) = 2
    rw [if_pos (hb.lt wb (.inl rfl))]; exact h.wbc
  · intro u hu g hg
    show (if g < w.heap.size then col g else if P' g then 1 else 2) = 2
    have hn : ¬ P' g := fun hp => hap.own g hp u hu hg
    by_cases hlt : g < w.heap.size
    · rw [if_pos hlt]
      simp only [List.mem_cons, List.not_mem_nil, or_false] at hu
      rcases hu with rfl | rfl | rfl | rfl
      · exact hc u (by simp) g hg
      · exact hc u (by simp) g hg
      · rcases gl g hg with e | e
        · exact hc lv (by simp) g e
        · omega
      · rcases go g hg with e | e
        · exact hc ov (by simp) g e
        · omega
    · rw [if_neg hlt, if_neg hn]
  · refine fun i hi => (kl i hi).mono (fun b hp => ⟨?_, hap.lt b hp⟩)
    show (if b < w.heap.size then col b else if P' b then 1 else 2) = 1
    split
    · exact old b ‹_› hp
    · rfl
  · refine fun i hi => (kr i hi).mono (fun b hp => ⟨?_, hap.lt b hp⟩)
    show (if b < w.heap.size then col b else if P' b then 1 else 2) = 1
    split
    · exact old b ‹_› hp
    · rfl
  · intro i hi
    obtain ⟨p1, p2, p3⟩ := h.tabs i hi
    refine ⟨p1.keep (by omega) (fun k hk hs => ?_) (fun k hk hs => b6 k hk (by rw [hs]; omega)), p2, p3⟩
    show (if k < w.heap.size then col k else _) = 3 + i
    rw [if_pos hk]; exact hs
  · exact ⟨hF.os.trans h5.os, hF.tape.trans h5.tape, hF.output.trans h5.output, by omega, fun b hlt hn => b6 b hlt (by simp at hn; omega)⟩

/-- The lists of tables are as they were. -/
def BookSame (wb : Nat) (w w' : World) : Prop :=
  (∀ o v, o < 2 → w.cell? ⟨wb, o, none⟩ = some v → w'.cell? ⟨wb, o, none⟩ = some v) ∧ (∀ o v g, o < 2 → w.cell? ⟨wb, o, none⟩ = some v → v.ownBlock = some g → g < w.heap.size → w'.heap[g]? = w.heap[g]?)

theorem BookSame.refl (wb : Nat) (w : World) : BookSame wb w w := ⟨fun _ _ _ h => h, fun _ _ _ _ _ _ _ => rfl⟩
theorem BookSame.trans {wb : Nat} {a b c : World} (h : BookSame wb a b) (k : BookSame wb b c) (hz : a.heap.size ≤ b.heap.size) : BookSame wb a c :=
  ⟨fun o v ho hv => k.1 o v ho (h.1 o v ho hv), fun o v g ho hv hg hl => (k.2 o v g ho (h.1 o v ho hv) hg (by omega)).trans (h.2 o v g ho hv hg hl)⟩
theorem BookSame.of_same {wb : Nat} {a b : World} (h : FrS (fun _ => False) a b) : BookSame wb a b :=
  ⟨fun o _ _ hv => (World.cell?_of_block (w := a) (a := ⟨wb, o, none⟩) (h.block wb (World.block_lt_of_cell? a ⟨wb, o, none⟩ hv) (fun h => h))).trans hv, fun _ _ g _ _ _ hl => h.block g hl (fun h => h)⟩

theorem BookAt.two {w : World} {wb : Nat} {tv rv lv ov : Value} {X : List (List Value)} (hb : BookAt w wb [tv, rv, lv, ov] X) {o : Nat} {v : Value} (ho : o < 2) (hv : w.cell? ⟨wb, o, none⟩ = some v) : (o = 0 ∧ v = tv) ∨ (o = 1 ∧ v = rv) := by
  have h2 : o = 0 ∨ o = 1 := by omega
  rcases h2 with rfl | rfl
  · rw [cell_of_row _ _ _ _ _ _ hb.blk] at hv
    left; exact ⟨rfl, by simpa using hv.symm⟩
  · rw [cell_of_row _ _ _ _ _ _ hb.blk] at hv
    right; exact ⟨rfl, by simpa using hv.symm⟩

theorem WorldOK.bookSame {w w' : World} {wb : Nat} {col : Nat → Nat} {Ts : List Tbl} {s i : Nat} (h : WorldOK w wb col Ts s) (hF : FrS (fun b => col b = 3 + i) w w') : BookSame wb w w' := by
  obtain ⟨tv, rv, lv, ov, ls, rws, hb, hc, _⟩ := h.ex
  have hwb := hb.lt wb (.inl rfl)
  refine ⟨fun o _ _ hv => (World.cell?_of_block (w := w) (a := ⟨wb, o, none⟩) (hF.block wb hwb (by rw [h.wbc]; omega))).trans hv, fun o v g ho hv hg hl => hF.block g hl ?_⟩
  have : col g = 2 := by
    rcases hb.two ho hv with ⟨_, rfl⟩ | ⟨_, rfl⟩
    · exact hc v (by simp) g hg
    · exact hc v (by simp) g hg
  rw [this]; omega

theorem keep_bookSame {w w5 w6 : World} {wb : Nat} {tv rv lv ov v : Value} {ts rs ls rws : List Value} {P : Nat → Prop} {M : List (Nat × List (Int × ByteArray))} (hb : BookAt w wb [tv, rv, lv, ov] [ts, rs, ls, rws]) (h5 : FrS (fun _ => False) w w5) (hM : ∀ p ∈ M, w.heap.size ≤ p.1) (hv : ∀ g, v.ownBlock = some g → w.heap.size ≤ g)
    (hk : KeepPost w5 w6 wb tv rv lv ov ts rs ls rws P M v) : BookSame wb w w6 := by
  obtain ⟨lv', ov', ls', rws', P', n1, n2, hb', hap, kl, kr, hPP, hP', hF, gl, go⟩ := hk
  refine ⟨fun o u ho hu => ?_, fun o u g ho hu hg hl => ?_⟩
  · rcases hb.two ho hu with ⟨rfl, rfl⟩ | ⟨rfl, rfl⟩
    · rw [cell_of_row _ _ _ _ _ _ hb'.blk]; rfl
    · rw [cell_of_row _ _ _ _ _ _ hb'.blk]; rfl
  · obtain ⟨q, hq2, hq, cs, fr, hty⟩ : ∃ q, q < 2 ∧ (∀ k, k < 4 → fty q = fty k → q = k) ∧ ∃ cs fr, w.heap[g]? = some (.cells cs (fty q) fr) := by
      rcases hb.two ho hu with ⟨_, rfl⟩ | ⟨_, rfl⟩
      · exact ⟨0, by omega, fun k hk e => fty_inj 0 k (by omega) hk e, own_ty (hb.own 0 (by simp) (by simp)) hg⟩
      · exact ⟨1, by omega, fun k hk e => fty_inj 1 k (by omega) hk e, own_ty (hb.own 1 (by simp) (by simp)) hg⟩
    refine (hF.block g (by have := h5.size; omega) (fun hm => ?_)).trans (h5.block g hl (fun h => h))
    simp only [List.mem_cons, List.mem_append, Option.mem_toList, List.mem_map] at hm
    rcases hm with e | e | e | ⟨p, hp, e⟩ | e
    · rw [e, hb.blk] at hty
      simp at hty
      exact fty_ne q (by omega) hty.2.1.symm
    · obtain ⟨cs', fr', h'⟩ := own_ty (hb.own 2 (by simp) (by simp)) (g := g) e
      rw [hty] at h'
      simp at h'
      have := hq 2 (by omega) h'.2.1
      omega
    · obtain ⟨cs', fr', h'⟩ := own_ty (hb.own 3 (by simp) (by simp)) (g := g) e
      rw [hty] at h'
      simp at h'
      have := hq 3 (by omega) h'.2.1
      omega
    · have := hM p hp; omega
    · have := hv g e; omega

end Go.Proofs.YtcconhgbefhdeaaDoor
