import Derived.Test.YtcconhgbefhdeaaDoorScansP09
namespace Go.Proofs.YtcconhgbefhdeaaDoor
open Go.RowKit
attribute [local go_sem ↓] Go.wp_at_zero Go.wp_at_succ

theorem info_rows : (Tryd.prog.info? 39).map (fun i => (i.zero, i.size, i.bytes)) = some (some (.slice none 0 0), 1, 24) := by kernel_rfl

theorem marks_vcells (i n m : Nat) : vcells (marks i n) ++ vcells (marks i m) = vcells (marks i (n + m)) := by
  rw [← vcells_append]; congr 1; unfold marks; simp

theorem marks_succ (i n : Nat) : marks i (n + 1) = marks i n ++ [(markI i, ⟨#[]⟩)] := by unfold marks; rw [List.replicate_succ']

theorem marks_length (i n : Nat) : (marks i n).length = n := by simp [marks]

theorem kept_of_own {w : World} {P : Nat → Prop} {i n base : Nat} {v : Value} (h : w.ownsRow base 30 2 v n (vcells (marks i n))) (hn : n ≤ 1000000000) (hP : ∀ g, v.ownBlock = some g → P g) : KeptRow w P i v := by
  rcases h.2 with ⟨h1, h0⟩ | ⟨g, cap, cur, hv, hg, hh, _⟩
  · exact ⟨none, 0, 0, h1, by omega, .inl rfl⟩
  · subst hv
    exact ⟨_, n, cap, rfl, hn, .inr ⟨g, rfl, hP g rfl, RowIn.of_own h⟩⟩

theorem KeptRow.keep {w w' : World} {P P' : Nat → Prop} {i : Nat} {v : Value} (h : KeptRow w P i v) (hP : ∀ b, P b → P' b) (hb : ∀ b, P b → w'.heap[b]? = w.heap[b]?) : KeptRow w' P' i v := by
  obtain ⟨a, n, c, hv, hn, h1⟩ := h
  refine ⟨a, n, c, hv, hn, ?_⟩
  rcases h1 with h0 | ⟨g, h2, h3, h4⟩
  · exact .inl h0
  · exact .inr ⟨g, h2, hP g h3, h4.keep (hb g h3)⟩

/-- Where the kept lists lie: apart from the World's own blocks. -/
structure Apart (w : World) (wb : Nat) (F : List Value) (P : Nat → Prop) : Prop where
  lt : ∀ b, P b → b < w.heap.size
  wb : ∀ b, P b → b ≠ wb
  own : ∀ b, P b → ∀ v ∈ F, v.ownBlock ≠ some b

theorem new_at {V : World} {n : Nat} (h : V.heap.size = n) (o : Obj) : (V.alloc o).heap[n]? = some o := by rw [← h]; exact heap_alloc_new V o

theorem setCell_size (w : World) (p : Addr) (v : Value) : (w.setCell p v).heap.size = w.heap.size := by simp [World.setCell]

theorem marks_same (Q j n : Nat) (h : Q % 4 = 0) (hj : j < 4) : marks (Q + j) n = marks Q n := by
  unfold marks markI; rw [show (Q + j) / 4 = Q / 4 by omega]

theorem four_at (l : List Value) (a b c d : Value) (i : Nat) (h : i < ((((l ++ [a]) ++ [b]) ++ [c]) ++ [d]).length) : (∃ hi : i < l.length, ((((l ++ [a]) ++ [b]) ++ [c]) ++ [d])[i] = l[i]) ∨ (i = l.length ∧ ((((l ++ [a]) ++ [b]) ++ [c]) ++ [d])[i] = a) ∨ (i = l.length + 1 ∧ ((((l ++ [a]) ++ [b]) ++ [c]) ++ [d])[i] = b) ∨ (i = l.length + 2 ∧ ((((l ++ [a]) ++ [b]) ++ [c]) ++ [d])[i] = c) ∨ (i = l.length + 3 ∧ ((((l ++ [a]) ++ [b]) ++ [c]) ++ [d])[i] = d) := by
  have h' : i < l.length + 4 := by simpa using h
  by_cases hi : i < l.length
  · exact .inl ⟨hi, by simp [hi]⟩
  · have : i = l.length ∨ i = l.length + 1 ∨ i = l.length + 2 ∨ i = l.length + 3 := by omega
    rcases this with rfl | rfl | rfl | rfl
    · exact .inr (.inl ⟨rfl, by simp⟩)
    · exact .inr (.inr (.inl ⟨rfl, by simp⟩))
    · exact .inr (.inr (.inr (.inl ⟨rfl, by simp⟩)))
    · exact .inr (.inr (.inr (.inr ⟨rfl, by simp⟩)))

theorem BookAt.lt {w : World} {wb : Nat} {F : List Value} {X : List (List Value)} (h : BookAt w wb F X) (k : Nat) (hk : k = wb ∨ ∃ v ∈ F, v.ownBlock = some k) : k < w.heap.size := by
  rcases hk with rfl | ⟨v, hv, hk⟩
  · exact (Array.getElem?_eq_some_iff.1 h.blk).1
  · obtain ⟨j, hj, rfl⟩ := List.getElem_of_mem hv
    obtain ⟨cs, fr, hc⟩ := own_ty (h.own j hj (by have := h.lf; have := h.lx; omega)) hk
    exact (Array.getElem?_eq_some_iff.1 hc).1

theorem BookAt.below {w w' : World} {wb : Nat} {F : List Value} {X : List (List Value)} (h : BookAt w wb F X) (hb : Below w.heap.size w w') : BookAt w' wb F X := h.keep (fun k hk => hb.block k (h.lt k hk))

/-- A block of values is none of the World's own. -/
theorem BookAt.notVal {w : World} {wb : Nat} {F : List Value} {X : List (List Value)} (h : BookAt w wb F X) {g : Nat} (hg : ∃ cs fr, w.heap[g]? = some (.cells cs 30 fr)) : ∀ k, (k = wb ∨ ∃ v ∈ F, v.ownBlock = some k) → k ≠ g := by
  obtain ⟨cs, fr, hg⟩ := hg
  rintro k hk rfl
  rcases hk with rfl | ⟨v, hv, hk⟩
  · rw [h.blk] at hg; simp at hg
  · obtain ⟨j, hj, rfl⟩ := List.getElem_of_mem hv
    have hj4 : j < 4 := by have := h.lf; omega
    obtain ⟨cs, fr, hc⟩ := own_ty (h.own j hj (by have := h.lx; omega)) hk
    rw [hg] at hc
    simp at hc
    have h2 : j = 0 ∨ j = 1 ∨ j = 2 ∨ j = 3 := by omega
    have h3 := hc.2.1
    rcases h2 with rfl | rfl | rfl | rfl <;> revert h3 <;> decide

/-- What keep leaves. -/
def KeepPost (w w' : World) (wb : Nat) (tv rv lv ov : Value) (ts rs ls rws : List Value) (P : Nat → Prop) (M : List (Nat × List (Int × ByteArray))) (v : Value) : Prop :=
  ∃ (lv' ov' : Value) (ls' rws' : List Value) (P' : Nat → Prop), ls'.length = ls.length + 4 * M.length ∧ rws'.length = rws.length + 4 ∧ BookAt w' wb [tv, rv, lv', ov'] [ts, rs, ls', rws'] ∧ Apart w' wb [tv, rv, lv', ov'] P' ∧
    (∀ i (h : i < ls'.length), KeptRow w' P' i ls'[i]) ∧ (∀ i (h : i < rws'.length), KeptRows w' P' i rws'[i]) ∧ (∀ b, P b → P' b) ∧ (∀ b, P' b → P b ∨ w.heap.size ≤ b ∨ (∃ p ∈ M, p.1 = b) ∨ v.ownBlock = some b) ∧
    Fr (wb :: (lv.ownBlock.toList ++ (ov.ownBlock.toList ++ (M.map Prod.fst ++ v.ownBlock.toList)))) w w' ∧ (∀ g, lv'.ownBlock = some g → lv.ownBlock = some g ∨ w.heap.size ≤ g) ∧ (∀ g, ov'.ownBlock = some g → ov.ownBlock = some g ∨ w.heap.size ≤ g)

theorem KeptRows.keep {w w' : World} {P P' : Nat → Prop} {i : Nat} {v : Value} (h : KeptRows w P i v) (hP : ∀ b, P b → P' b) (hb : ∀ b, P b → w'.heap[b]? = w.heap[b]?) : KeptRows w' P' i v := by
  obtain ⟨a, n, c, hv, hn, h1⟩ := h
  refine ⟨a, n, c, hv, hn, ?_⟩
  rcases h1 with h0 | ⟨g, h2, h3, h4⟩
  · exact .inl h0
  · refine .inr ⟨g, h2, hP g h3, fun k hk => ?_⟩
    obtain ⟨m, cm, p1, p2, p3⟩ := h4 k hk
    exact ⟨m, cm, hP m p1, (World.cell?_of_block (w := w) (a := ⟨g, k, none⟩) (hb g h3)).trans p2, p3.keep (hb m p1)⟩

theorem keptRows_of_own {w : World} {P : Nat → Prop} {i n mb : Nat} {v : Value} (h : w.ownsRow 0 25 1 v n (List.replicate n (.slice (some ⟨mb, 0, none⟩) 1 1))) (hn : n ≤ 1000000000) (hP : ∀ g, v.ownBlock = some g → P g) (hm : P mb) (hr : RowIn w mb (marks i 1)) : KeptRows w P i v := by
  rcases h.2 with ⟨h1, h0⟩ | ⟨g, cap, cur, hv, hg, hh, _⟩
  · exact ⟨none, 0, 0, h1, by omega, .inl rfl⟩
  · subst hv
    refine ⟨_, n, cap, rfl, hn, .inr ⟨g, rfl, hP g rfl, fun k hk => ⟨mb, 1, hm, ?_, hr⟩⟩⟩
    have := h.cells (g := g) rfl k (.slice (some ⟨mb, 0, none⟩) 1 1) (by simp [hk])
    have hadd : (⟨g, 0, none⟩ : Addr).add k = ⟨g, k, none⟩ := by unfold Addr.add; split <;> simp_all
    rw [hadd] at this
    exact this

set_option maxRecDepth 100000 in
set_option maxHeartbeats 4000000 in
theorem keep_ok (wb : Nat) (tv rv lv ov : Value) (ts rs ls rws : List Value) (P : Nat → Prop) (M : List (Nat × List (Int × ByteArray))) (v : Value) (w : World) (hb : BookAt w wb [tv, rv, lv, ov] [ts, rs, ls, rws]) (hM : RowsAt w 0 v M) (hnd : ∀ i j (hi : i < M.length) (hj : j < M.length), M[i].1 = M[j].1 → i = j)
    (hap : Apart w wb [tv, rv, lv, ov] P) (hl4 : ls.length % 4 = 0) (hl9 : ls.length ≤ 100000000000) (hr4 : rws.length % 4 = 0) (hr9 : rws.length ≤ 100000000000) (hM1 : M.length ≤ 100000) (hr : ∀ p ∈ M, p.2.length ≤ 100000)
    (kl : ∀ i (h : i < ls.length), KeptRow w P i ls[i]) (kr : ∀ i (h : i < rws.length), KeptRows w P i rws[i]) (hMP : ∀ p ∈ M, ¬ P p.1) (hvP : ∀ g, v.ownBlock = some g → ¬ P g) (hvl : ∀ g, v.ownBlock = some g → g ≠ wb ∧ ∀ u ∈ [tv, rv, lv, ov], u.ownBlock ≠ some g) :
    Calls Tryd.prog 59 #[.pointer (some ⟨wb, 0, none⟩), v] w fun e w' => e = .returned (.tuple #[]) ∧ KeepPost w w' wb tv rv lv ov ts rs ls rws P M v := by
  obtain ⟨j0, hj0, hy0, hy1, hy2⟩ := info_parts info_value
  obtain ⟨i0, hi0, hz0, hz1, hz2⟩ := info_parts info_row
  obtain ⟨la, lc, rfl, hMin⟩ := hM.rowsIn
  have HM : Hid (RowsAt w 0 (.slice la M.length lc) M) := hM
  have HMI : Hid (RowsIn w la M) := hMin
  have HBK : Hid (BookAt w wb [tv, rv, lv, ov] [ts, rs, ls, rws]) := hb
  have HAP : Hid (Apart w wb [tv, rv, lv, ov] P) := hap
  have HND : Hid (∀ i j (hi : i < M.length) (hj : j < M.length), M[i].1 = M[j].1 → i = j) := hnd
  have KL : Hid (∀ i (h : i < ls.length), KeptRow w P i ls[i]) := kl
  have HR : Hid (∀ p ∈ M, p.2.length ≤ 100000) := hr
  have HMP : Hid (∀ p ∈ M, ¬ P p.1) := hMP
  have HVL : Hid (∀ g, (Value.slice la M.length lc).ownBlock = some g → g ≠ wb ∧ ∀ u ∈ [tv, rv, lv, ov], u.ownBlock ≠ some g) := hvl
  have KR : Hid (∀ i (h : i < rws.length), KeptRows w P i rws[i]) := kr
  have HVP : Hid (∀ g, (Value.slice la M.length lc).ownBlock = some g → ¬ P g) := hvP
  clear hb hM hnd hap kl hr hMin hMP hvl kr hvP
  go_enter Tryd.func59, Tryd.ntmps59
  go_wp2_with fail
  go_loopw [4] (fun i wr => ∃ k : Nat, k ≤ M.length ∧ i = .int .i64 k ∧ ∃ (lv' : Value) (ls' : List Value) (P' : Nat → Prop), ls'.length = ls.length + 4 * k ∧ BookAt wr wb [tv, rv, lv', ov] [ts, rs, ls', rws] ∧ Apart wr wb [tv, rv, lv', ov] P' ∧
      (∀ i (h : i < ls'.length), KeptRow wr P' i ls'[i]) ∧ (∀ b, P b → P' b) ∧ (∀ b, P' b → P b ∨ w.heap.size ≤ b ∨ ∃ j, ∃ h : j < M.length, j < k ∧ M[j].1 = b) ∧ (∀ p ∈ M.drop k, RowBlk wr p) ∧ (∀ b, la = some b → wr.heap[b.block]? = w.heap[b.block]? ∧ b.block ≠ wb ∧ ∀ u ∈ [tv, rv, lv', ov], u.ownBlock ≠ some b.block) ∧ w.heap.size ≤ wr.heap.size ∧ Fr (wb :: (lv.ownBlock.toList ++ M.map Prod.fst)) w wr ∧ (lv'.ownBlock = lv.ownBlock ∨ ∃ g, lv'.ownBlock = some g ∧ w.heap.size ≤ g)) (fun i _ => M.length - (intOf i).toNat)
  case atStart => exact ⟨0, Nat.zero_le _, rfl, lv, ls, P, by omega, HBK.out, HAP.out, KL.out, fun _ h => h, fun b h => .inl h, fun p hp => HMI.out.blk p (by simpa using hp), fun b hb => ⟨rfl, HVL.out b.block (by rw [hb]; rfl)⟩, Nat.le_refl _, Fr.refl _ _, .inl rfl⟩
  case round =>
    obtain ⟨k, hk, rfl, lv', ls', P', hlen, hbk, hap, hkl, hPP, hP'b, hMr, hla, hzr, hFR, hLO⟩ := hrel
    obtain ⟨W0, rfl⟩ : ∃ W0, W0 = wr := ⟨wr, rfl⟩
    by_cases hlt : k < M.length
    · rcases HMI.out.at' with h0 | ⟨lg, rfl, hlc⟩
      · rw [h0] at hlt; simp at hlt
      have d1 : W0.cell? ⟨lg, k, none⟩ = some (.slice (some ⟨M[k].1, 0, none⟩) M[k].2.length M[k].2.length) := (World.cell?_of_block (w := w) (a := ⟨lg, k, none⟩) (hla ⟨lg, 0, none⟩ rfl).1).trans (hlc k hlt)
      have hrb : RowBlk W0 M[k] := hMr M[k] (by rw [List.drop_eq_getElem_cons hlt]; exact List.mem_cons_self)
      obtain ⟨lla, llc, hlv⟩ : ∃ a c, lv' = .slice a ls'.length c := by
        rcases (hbk.own 2 (by simp) (by simp)).2 with ⟨h1, h2⟩ | ⟨gg, cp, _, h1, _⟩
        · exact ⟨none, 0, by have h3 : ls'.length = 0 := h2
                             rw [h3]; exact h1⟩
        · exact ⟨_, cp, h1⟩
      subst hlv
      have c2 : W0.cell? ⟨wb, 2, none⟩ = some (.slice lla ls'.length llc) := by rw [cell_of_row _ _ _ _ _ _ hbk.blk]; rfl
      have hn := HR.out M[k] (List.getElem_mem hlt)
      have hgx : M[k].1 < W0.heap.size := hrb.lt
      have hsz : (vcells M[k].2).length = 2 * M[k].2.length := vcells_length _
      have HRB : Hid (W0.heap[M[k].1]? = some (.cells (vcells M[k].2).toArray 30 (0, 0))) := hrb
      have hgP : ¬ P' M[k].1 := fun h => by
        rcases hP'b _ h with x | x | ⟨j, hj, hjk, x⟩
        · exact HMP.out M[k] (List.getElem_mem hlt) x
        · have := (HMI.out.blk M[k] (List.getElem_mem hlt)).lt; omega
        · have := HND.out j k hj hlt x
          omega
      have hgD : ∀ p ∈ M.drop (k + 1), p.1 ≠ M[k].1 := fun p hp e => by
        obtain ⟨j, hj, rfl⟩ := List.getElem_of_mem hp
        rw [List.getElem_drop] at e
        have hj' : k + 1 + j < M.length := by simp at hj; omega
        have := HND.out (k + 1 + j) k hj' hlt e
        omega
      have HGP : Hid (¬ P' M[k].1) := hgP
      have HGM : Hid (M[k].1 ∈ M.map Prod.fst) := List.mem_map_of_mem (List.getElem_mem hlt)
      have HGD : Hid (∀ p ∈ M.drop (k + 1), p.1 ≠ M[k].1) := hgD
      have HLG : Hid (lg ≠ M[k].1 ∧ lg < w.heap.size) := by
        obtain ⟨cs, fr, hc⟩ := own_ty HM.out.own (g := lg) rfl
        refine ⟨fun e => ?_, (Array.getElem?_eq_some_iff.1 hc).1⟩
        have h2 := HMI.out.blk M[k] (List.getElem_mem hlt)
        unfold RowBlk at h2
        rw [← e, hc] at h2
        simp at h2
      have HMK0 : Hid (∃ j, ∃ h : j < M.length, j < k + 1 ∧ M[j].1 = M[k].1) := ⟨k, hlt, by omega, rfl⟩
      clear hrb hlc hgP hgD
      generalize M[k].1 = gx at *
      generalize M[k].2 = rr at *
      generalize hnn : rr.length = n at *
      have i0' : (0 : Int) ≤ (k : Int) := by omega
      have i1' : (k : Int) < (M.length : Int) := by omega
      have hmk : markI ls'.length = -1000 - (ls'.length : Int) / 4 := by unfold markI; omega
      have hmb : -1000 - (ls'.length : Int) / 4 ≤ 0 ∧ -9000000000000 ≤ -1000 - (ls'.length : Int) / 4 := by omega
      have HBK' : Hid (BookAt W0 wb [tv, rv, .slice lla ls'.length llc, ov] [ts, rs, ls', rws]) := hbk
      have HAP' : Hid (Apart W0 wb [tv, rv, .slice lla ls'.length llc, ov] P') := hap
      have KL' : Hid (∀ i (h : i < ls'.length), KeptRow W0 P' i ls'[i]) := hkl
      have HPP : Hid (∀ b, P b → P' b) := hPP
      have HPB : Hid (∀ b, P' b → P b ∨ w.heap.size ≤ b ∨ ∃ j, ∃ h : j < M.length, j < k ∧ M[j].1 = b) := hP'b
      have HMR : Hid (∀ p ∈ M.drop k, RowBlk W0 p) := hMr
      have HFR : Hid (Fr (wb :: (lv.ownBlock.toList ++ M.map Prod.fst)) w W0) := hFR
      have HLO : Hid (((Value.slice lla ls'.length llc).ownBlock = lv.ownBlock ∨ ∃ g, (Value.slice lla ls'.length llc).ownBlock = some g ∧ w.heap.size ≤ g)) := hLO
      have HLA : Hid (W0.heap[lg]? = w.heap[lg]? ∧ lg ≠ wb ∧ ∀ u ∈ [tv, rv, .slice lla ls'.length llc, ov], u.ownBlock ≠ some lg) := hla ⟨lg, 0, none⟩ rfl
      clear hbk hap hkl hPP hP'b hMr hla hFR hLO
      have HLEN : Hid (ls'.length = ls.length + 4 * k) := hlen
      have hm4 : ls'.length % 4 = 0 := by omega
      have hlb : ls'.length ≤ 200000000000 := by omega
      have n1 := World.new_ne _ _ d1
      have n2 := World.new_ne _ _ c2
      have n3 : ¬ gx = W0.heap.size := by omega
      have n4 : ¬ W0.heap.size = gx := by omega
      have e1 : ∀ o, (W0.alloc o).heap[gx]? = some (.cells (vcells rr).toArray 30 (0, 0)) := fun o => (Below.heap_alloc _ _ _ hgx).trans HRB.out
      have HE1 : Hid (∀ o, (W0.alloc o).heap[gx]? = some (.cells (vcells rr).toArray 30 (0, 0))) := e1
      clear hlen e1
      have HMK : Hid (markI ls'.length = -1000 - (ls'.length : Int) / 4) := hmk
      clear hmk
      generalize hmv : -1000 - (ls'.length : Int) / 4 = mv at *
      have d1q : ∀ o, (W0.alloc o).cell? ⟨lg, k, none⟩ = some (.slice (some ⟨gx, 0, none⟩) n n) := fun o => (cell_alloc _ _ _ _ (World.block_lt_of_cell? W0 ⟨lg, k, none⟩ d1)).trans d1
      go_wp2_with fail
      go_loopw [7] (fun j wr => ∃ q : Nat, q ≤ n ∧ j = .int .i64 q ∧ Fr [gx] (W0.alloc (.cells #[.int .i64 mv, .string ⟨#[]⟩] 30)) wr ∧ wr.heap.size = W0.heap.size + 1 ∧ ∃ cur : Array Value, wr.heap[gx]? = some (.cells cur 30 (0, 0)) ∧ cur.size = 2 * n ∧ cur.toList.take (2 * q) = vcells (marks ls'.length q)) (fun j _ => n - (intOf j).toNat)
      case atStart => exact ⟨0, Nat.zero_le _, rfl, Fr.refl _ _, by simp, _, HE1.out _, by simpa using hsz, by simp [marks, vcells]⟩
      case round =>
        obtain ⟨q, hq, rfl, hF, hzi, cur, hcur, hcs, htk⟩ := hrel
        have b0 : wr.cell? ⟨W0.heap.size, 0, none⟩ = some (.int .i64 mv) := (hF.cell W0.heap.size 0 (by simp) (by simpa using n4)).trans (by simp)
        have b1 : wr.cell? ⟨W0.heap.size, 1, none⟩ = some (.string ⟨#[]⟩) := (hF.cell W0.heap.size 1 (by simp) (by simpa using n4)).trans (by simp)
        by_cases hql : q < n
        · obtain ⟨x1, y1⟩ : ∃ x, wr.cell? ⟨gx, q * 2, none⟩ = some x := by
            rw [cell_of_row _ _ _ _ _ _ hcur]; exact ⟨_, Array.getElem?_eq_getElem (by omega)⟩
          obtain ⟨x2, y2⟩ : ∃ x, wr.cell? ⟨gx, q * 2 + 1, none⟩ = some x := by
            rw [cell_of_row _ _ _ _ _ _ hcur]; exact ⟨_, Array.getElem?_eq_getElem (by omega)⟩
          have f1 : wr.frozen? ⟨gx, q * 2, none⟩ = false := by simp [World.frozen?, hcur]
          have f2 : wr.frozen? ⟨gx, q * 2 + 1, none⟩ = false := by simp [World.frozen?, hcur]
          have k0 : (0 : Int) ≤ (q : Int) := by omega
          have k1 : (q : Int) < (n : Int) := by omega
          have HTK : Hid (cur.toList.take (2 * q) = vcells (marks ls'.length q)) := htk
          have HCUR : Hid (wr.heap[gx]? = some (.cells cur 30 (0, 0))) := hcur
          clear htk hcur
          go_wp2
          go_roundw
          case rel =>
            refine ⟨q + 1, by omega, by go_num, (hF.setCell (p := ⟨gx, _, none⟩) (.inl (by simp)) _).setCell (p := ⟨gx, _, none⟩) (.inl (by simp)) _, by simpa [World.setCell] using hzi, _, heap_setCell_same _ _ _ _ _ _ (heap_setCell_same _ _ _ _ _ _ HCUR.out), by simpa using hcs, ?_⟩
            rw [Array.toList_setIfInBounds, Array.toList_setIfInBounds, take_set2 _ _ _ _ (by rw [Array.length_toList]; omega), HTK.out, marks_succ, vcells_append, HMK.out]
            rfl
          case measure => simp [intOf]; omega
        · have k1 : ¬ (q : Int) < (n : Int) := by omega
          have hqn : q = n := by omega
          subst hqn
          obtain ⟨W1, rfl⟩ : ∃ W1, W1 = wr := ⟨wr, rfl⟩
          have HR1 : Hid (RowIn W1 gx (marks ls'.length q)) := RowIn.of_block hcur (by rw [marks_length]; exact htk)
          have hgx1 : gx < W1.heap.size := by omega
          have hzi1 : W0.heap.size < W1.heap.size := by omega
          have HZI : Hid (W1.heap.size = W0.heap.size + 1) := hzi
          clear hzi
          have HF1 : Hid (Fr [gx] (W0.alloc (.cells #[.int .i64 mv, .string ⟨#[]⟩] 30)) W1) := hF
          have hv1 : vcells (marks ls'.length q) ++ [.int .i64 mv, .string ⟨#[]⟩] = vcells (marks ls'.length (q + 1)) := by
            rw [marks_succ, vcells_append, HMK.out]; rfl
          have hv2 : vcells (marks ls'.length q) ++ [.int .i64 mv, .string ⟨#[]⟩, .int .i64 mv, .string ⟨#[]⟩] = vcells (marks ls'.length (q + 2)) := by
            rw [marks_succ, vcells_append, ← hv1, HMK.out]; simp [vcells]
          have hv3 : vcells (marks ls'.length q) ++ [.int .i64 mv, .string ⟨#[]⟩, .int .i64 mv, .string ⟨#[]⟩, .int .i64 mv, .string ⟨#[]⟩] = vcells (marks ls'.length (q + 3)) := by
            rw [marks_succ, vcells_append, ← hv2, HMK.out]; simp [vcells]
          have HV1 : Hid (vcells (marks ls'.length q) ++ [.int .i64 mv, .string ⟨#[]⟩] = vcells (marks ls'.length (q + 1))) := hv1
          have HV2 : Hid (vcells (marks ls'.length q) ++ [.int .i64 mv, .string ⟨#[]⟩, .int .i64 mv, .string ⟨#[]⟩] = vcells (marks ls'.length (q + 2))) := hv2
          have HV3 : Hid (vcells (marks ls'.length q) ++ [.int .i64 mv, .string ⟨#[]⟩, .int .i64 mv, .string ⟨#[]⟩, .int .i64 mv, .string ⟨#[]⟩] = vcells (marks ls'.length (q + 3))) := hv3
          have BW1 : Hid (BookAt W1 wb [tv, rv, .slice lla ls'.length llc, ov] [ts, rs, ls', rws]) := HBK'.out.keep (fun j hj => (hF.block j (by have := HBK'.out.lt j hj; simp; omega) (by simpa using HBK'.out.notVal ⟨_, _, HRB.out⟩ j hj)).trans (Below.heap_alloc _ _ _ (HBK'.out.lt j hj)))
          clear hF htk hcur hv1 hv2 hv3
          go_wp2_with (first
            | (at_builtin; refine wpList_append_grows _ rfl _ _ _ rfl 30 j0 _ 2 24 Tryd.underlying25 hj0 hy0 hy1 hy2 rfl (by omega) (some ⟨gx, 0, none⟩) q q (vcells (marks ls'.length q)) (by rfl) (by simp) (by rw [vcells_length, marks_length]; omega) (fun b hb => by cases hb; exact (HR1.out.keep (Below.heap_alloc _ _ _ hgx1)).news) ⟨W1.heap.size, 0, none⟩ 1 1 [.int .i64 mv, .string ⟨#[]⟩] (by rfl) (by rfl) (World.news_of_block (cs := #[.int .i64 mv, .string ⟨#[]⟩]) (t := 30) (fr := (0, 0)) (heap_alloc_new W1 _)) (by simp [Value.oneCell']) (by omega) (by unfold maxLen; omega) (by omega) ?_
               intro va w1 hown1 hgrow1
               obtain ⟨ga, ca, rfl, hga1, hga2⟩ := hown1.form (by omega)
               have hb1 : Below W1.heap.size W1 w1 := ((Below.refl W1.heap.size W1).alloc (Nat.le_refl _) _).trans ((below_grown hgrow1).mono (by simp))
               have hs1 := hb1.size
               have p10 : w1.cell? ⟨W0.heap.size, 0, none⟩ = some (.int .i64 mv) := (hb1.cell (p := ⟨W0.heap.size, 0, none⟩) (by simp; omega)).trans b0
               have p11 : w1.cell? ⟨W0.heap.size, 1, none⟩ = some (.string ⟨#[]⟩) := (hb1.cell (p := ⟨W0.heap.size, 1, none⟩) (by simp; omega)).trans b1
               have HR2 : Hid (RowIn w1 gx (marks ls'.length q)) := HR1.out.keep (hb1.block gx hgx1)
               have HO1 : Hid (w1.ownsRow (W1.heap.size + 1) 30 2 (.slice (some ⟨ga, 0, none⟩) (q + 1) ca) (q + 1) (vcells (marks ls'.length (q + 1)))) := by unfold Hid; rw [HV1.out] at hown1; simpa using hown1
               clear hown1 hgrow1)
            | (at_builtin; refine wpList_append_grows _ rfl _ _ _ rfl 30 j0 _ 2 24 Tryd.underlying25 hj0 hy0 hy1 hy2 rfl (by omega) (some ⟨gx, 0, none⟩) q q (vcells (marks ls'.length q)) (by rfl) (by simp) (by rw [vcells_length, marks_length]; omega) (fun b hb => by cases hb; exact (HR2.out.keep (Below.heap_alloc _ _ _ (by omega))).news) ⟨w1.heap.size, 0, none⟩ 2 2 [.int .i64 mv, .string ⟨#[]⟩, .int .i64 mv, .string ⟨#[]⟩] (by rfl) (by rfl) (World.news_of_block (cs := #[.int .i64 mv, .string ⟨#[]⟩, .int .i64 mv, .string ⟨#[]⟩]) (t := 30) (fr := (0, 0)) (heap_alloc_new w1 _)) (by simp [Value.oneCell']) (by omega) (by unfold maxLen; omega) (by omega) ?_
               intro vb w2 hown2 hgrow2
               obtain ⟨gb, cb, rfl, hgb1, hgb2⟩ := hown2.form (by omega)
               have hb2 : Below w1.heap.size w1 w2 := ((Below.refl w1.heap.size w1).alloc (Nat.le_refl _) _).trans ((below_grown hgrow2).mono (by simp))
               have hs2 := hb2.size
               have p20 : w2.cell? ⟨W0.heap.size, 0, none⟩ = some (.int .i64 mv) := (hb2.cell (p := ⟨W0.heap.size, 0, none⟩) (by simp; omega)).trans p10
               have p21 : w2.cell? ⟨W0.heap.size, 1, none⟩ = some (.string ⟨#[]⟩) := (hb2.cell (p := ⟨W0.heap.size, 1, none⟩) (by simp; omega)).trans p11
               have HR3 : Hid (RowIn w2 gx (marks ls'.length q)) := HR2.out.keep (hb2.block gx (by omega))
               have HO2 : Hid (w2.ownsRow (w1.heap.size + 1) 30 2 (.slice (some ⟨gb, 0, none⟩) (q + 2) cb) (q + 2) (vcells (marks ls'.length (q + 2)))) := by unfold Hid; rw [HV2.out] at hown2; simpa using hown2
               clear hown2 hgrow2 p10 p11)
            | (at_builtin; refine wpList_append_grows _ rfl _ _ _ rfl 30 j0 _ 2 24 Tryd.underlying25 hj0 hy0 hy1 hy2 rfl (by omega) (some ⟨gx, 0, none⟩) q q (vcells (marks ls'.length q)) (by rfl) (by simp) (by rw [vcells_length, marks_length]; omega) (fun b hb => by cases hb; exact (HR3.out.keep (Below.heap_alloc _ _ _ (by omega))).news) ⟨w2.heap.size, 0, none⟩ 3 3 [.int .i64 mv, .string ⟨#[]⟩, .int .i64 mv, .string ⟨#[]⟩, .int .i64 mv, .string ⟨#[]⟩] (by rfl) (by rfl) (World.news_of_block (cs := #[.int .i64 mv, .string ⟨#[]⟩, .int .i64 mv, .string ⟨#[]⟩, .int .i64 mv, .string ⟨#[]⟩]) (t := 30) (fr := (0, 0)) (heap_alloc_new w2 _)) (by simp [Value.oneCell']) (by omega) (by unfold maxLen; omega) (by omega) ?_
               intro vc w3 hown3 hgrow3
               obtain ⟨gc, cc, rfl, hgc1, hgc2⟩ := hown3.form (by omega)
               have hb3 : Below w2.heap.size w2 w3 := ((Below.refl w2.heap.size w2).alloc (Nat.le_refl _) _).trans ((below_grown hgrow3).mono (by simp))
               have hs3 := hb3.size
               have HR4 : Hid (RowIn w3 gx (marks ls'.length q)) := HR3.out.keep (hb3.block gx (by omega))
               have HO3 : Hid (w3.ownsRow (w2.heap.size + 1) 30 2 (.slice (some ⟨gc, 0, none⟩) (q + 3) cc) (q + 3) (vcells (marks ls'.length (q + 3)))) := by unfold Hid; rw [HV3.out] at hown3; simpa using hown3
               have BW3 : Hid (BookAt w3 wb [tv, rv, .slice lla ls'.length llc, ov] [ts, rs, ls', rws]) := ((BW1.out.below hb1).below hb2).below hb3
               have c3 : w3.cell? ⟨wb, 2, none⟩ = some (.slice lla ls'.length llc) := by rw [cell_of_row _ _ _ _ _ _ BW3.out.blk]; rfl
               have f3 : w3.frozen? ⟨wb, 2, none⟩ = false := by simp [World.frozen?, BW3.out.blk]
               have hwb3 : wb < w3.heap.size := BW3.out.lt wb (.inl rfl)
               have O3 : Hid (w3.ownsRow 0 25 1 (.slice lla ls'.length llc) ls'.length ls') := BW3.out.own 2 (by simp) (by simp)
               have nb3 : some wb ≠ (Value.slice lla ls'.length llc).ownBlock := fun e => by
                 obtain ⟨cs, fr, hc⟩ := own_ty O3.out e.symm
                 rw [BW3.out.blk] at hc
                 simp at hc
               clear hown3 hgrow3 p20 p21)
            | (at_builtin; refine wpList_append_lies _ rfl _ _ _ rfl 0 25 i0 _ 1 24 Tryd.underlying39 hi0 hz0 hz1 hz2 rfl (by omega) (.slice lla ls'.length llc) ls'.length ls' (by rfl) (O3.out.alloc _) ⟨w3.heap.size, 0, none⟩ 1 1 [.slice (some ⟨gx, 0, none⟩) q q] (by rfl) (by rfl) (World.news_of_block (cs := #[.slice (some ⟨gx, 0, none⟩) q q]) (t := 25) (fr := (0, 0)) (heap_alloc_new w3 _)) (by simp [Value.oneCell']) (by omega) (by unfold maxLen; omega) (by omega) (by omega) (w3.heap.size + 1) (by simp) ?_
               intro g4 k4 w4 hown4 hgrow4 hat4 hlt4
               have q41 : w4.cell? ⟨wb, 2, none⟩ = some (.slice lla ls'.length llc) := (hgrow4.cell_far ⟨wb, 2, none⟩ (by simp; omega) nb3).trans ((cell_alloc w3 _ wb 2 hwb3).trans c3)
               have q42 : w4.frozen? ⟨wb, 2, none⟩ = false := (hgrow4.frozen_far ⟨wb, 2, none⟩ (by simp; omega) nb3).trans ((frozen_alloc w3 _ wb 2 hwb3).trans f3)
               have PB4 : Hid (BookAt (w4.setCell ⟨wb, 2, none⟩ (.slice (some ⟨g4, 0, none⟩) (ls'.length + 1) k4)) wb [tv, rv, .slice (some ⟨g4, 0, none⟩) (ls'.length + 1) k4, ov] [ts, rs, ls' ++ [.slice (some ⟨gx, 0, none⟩) q q], rws] ∧ Fr (wb :: (Value.slice lla ls'.length llc).ownBlock.toList) w3 (w4.setCell ⟨wb, 2, none⟩ (.slice (some ⟨g4, 0, none⟩) (ls'.length + 1) k4))) := BW3.out.push (k := 2) (by simp) (by simp) hgrow4 hown4 hat4
               have HS4 : (w4.setCell ⟨wb, 2, none⟩ (.slice (some ⟨g4, 0, none⟩) (ls'.length + 1) k4)).heap.size = w4.heap.size := setCell_size _ _ _
               have O4 : Hid ((w4.setCell ⟨wb, 2, none⟩ (.slice (some ⟨g4, 0, none⟩) (ls'.length + 1) k4)).ownsRow 0 25 1 (.slice (some ⟨g4, 0, none⟩) (ls'.length + 1) k4) (ls'.length + 1) (ls' ++ [.slice (some ⟨gx, 0, none⟩) q q])) := by
                 have h := PB4.out.1.own 2 (by simp) (by simp)
                 simpa [Hid, fty] using h
               have nb4 : some wb ≠ (Value.slice (some ⟨g4, 0, none⟩) (ls'.length + 1) k4).ownBlock := fun e => by
                 obtain ⟨cs, fr, hc⟩ := own_ty O4.out e.symm
                 rw [PB4.out.1.blk] at hc
                 simp at hc
               have hwb4 : wb < w4.heap.size := by have := PB4.out.1.lt wb (.inl rfl); rw [HS4] at this; exact this
               have c4f : (w4.setCell ⟨wb, 2, none⟩ (.slice (some ⟨g4, 0, none⟩) (ls'.length + 1) k4)).cell? ⟨wb, 2, none⟩ = some (.slice (some ⟨g4, 0, none⟩) (ls'.length + 1) k4) := by rw [cell_of_row _ _ _ _ _ _ PB4.out.1.blk]; rfl
               have f4f : (w4.setCell ⟨wb, 2, none⟩ (.slice (some ⟨g4, 0, none⟩) (ls'.length + 1) k4)).frozen? ⟨wb, 2, none⟩ = false := by simp [World.frozen?, PB4.out.1.blk]
               have HC4 : Hid ((w4.setCell ⟨wb, 2, none⟩ (.slice (some ⟨g4, 0, none⟩) (ls'.length + 1) k4)).cell? ⟨wb, 2, none⟩ = some (.slice (some ⟨g4, 0, none⟩) (ls'.length + 1) k4)) := c4f
               have HF4 : Hid ((w4.setCell ⟨wb, 2, none⟩ (.slice (some ⟨g4, 0, none⟩) (ls'.length + 1) k4)).frozen? ⟨wb, 2, none⟩ = false) := f4f
               clear c4f f4f)
            | (at_builtin; refine wpList_append_lies _ rfl _ _ _ rfl 0 25 i0 _ 1 24 Tryd.underlying39 hi0 hz0 hz1 hz2 rfl (by omega) (.slice (some ⟨g4, 0, none⟩) (ls'.length + 1) k4) (ls'.length + 1) (ls' ++ [.slice (some ⟨gx, 0, none⟩) q q]) (by rfl) (O4.out.alloc _) ⟨w4.heap.size, 0, none⟩ 1 1 [.slice (some ⟨ga, 0, none⟩) (q + 1) ca] (by rfl) (by rfl) (World.news_of_block (cs := #[.slice (some ⟨ga, 0, none⟩) (q + 1) ca]) (t := 25) (fr := (0, 0)) (new_at HS4 _)) (by simp [Value.oneCell']) (by omega) (by unfold maxLen; omega) (by omega) (by omega) (w4.heap.size + 1) (by simp) ?_
               intro g5 k5 w5 hown5 hgrow5 hat5 hlt5
               have q51 : w5.cell? ⟨wb, 2, none⟩ = some (.slice (some ⟨g4, 0, none⟩) (ls'.length + 1) k4) := (hgrow5.cell_far ⟨wb, 2, none⟩ (by simp; omega) nb4).trans ((cell_alloc _ _ wb 2 (by rw [HS4]; exact hwb4)).trans HC4.out)
               have q52 : w5.frozen? ⟨wb, 2, none⟩ = false := (hgrow5.frozen_far ⟨wb, 2, none⟩ (by simp; omega) nb4).trans ((frozen_alloc _ _ wb 2 (by rw [HS4]; exact hwb4)).trans HF4.out)
               have PB5 : Hid (BookAt (w5.setCell ⟨wb, 2, none⟩ (.slice (some ⟨g5, 0, none⟩) (ls'.length + 2) k5)) wb [tv, rv, (.slice (some ⟨g5, 0, none⟩) (ls'.length + 2) k5), ov] [ts, rs, ((ls' ++ [.slice (some ⟨gx, 0, none⟩) q q]) ++ [.slice (some ⟨ga, 0, none⟩) (q + 1) ca]), rws] ∧ Fr (wb :: (Value.slice (some ⟨g4, 0, none⟩) (ls'.length + 1) k4).ownBlock.toList) (w4.setCell ⟨wb, 2, none⟩ (.slice (some ⟨g4, 0, none⟩) (ls'.length + 1) k4)) (w5.setCell ⟨wb, 2, none⟩ (.slice (some ⟨g5, 0, none⟩) (ls'.length + 2) k5))) := by
                 have h := PB4.out.1.push (k := 2) (x := .slice (some ⟨ga, 0, none⟩) (q + 1) ca) (gg := g5) (cp := k5) (w3 := w5) (by simp) (by simp) hgrow5 (by simpa [fty] using hown5) (hat5.imp_right (fun e => e.trans (by rw [HS4])))
                 simpa [Hid] using h
               have HS5 : (w5.setCell ⟨wb, 2, none⟩ (.slice (some ⟨g5, 0, none⟩) (ls'.length + 2) k5)).heap.size = w5.heap.size := setCell_size _ _ _
               have O5 : Hid ((w5.setCell ⟨wb, 2, none⟩ (.slice (some ⟨g5, 0, none⟩) (ls'.length + 2) k5)).ownsRow 0 25 1 (.slice (some ⟨g5, 0, none⟩) (ls'.length + 2) k5) (ls'.length + 2) ((ls' ++ [.slice (some ⟨gx, 0, none⟩) q q]) ++ [.slice (some ⟨ga, 0, none⟩) (q + 1) ca])) := by
                 have h := PB5.out.1.own 2 (by simp) (by simp)
                 simpa [Hid, fty] using h
               have nb5 : some wb ≠ (Value.slice (some ⟨g5, 0, none⟩) (ls'.length + 2) k5).ownBlock := fun e => by
                 obtain ⟨cs, fr, hc⟩ := own_ty O5.out e.symm
                 rw [PB5.out.1.blk] at hc
                 simp at hc
               have hwb5 : wb < w5.heap.size := by have := PB5.out.1.lt wb (.inl rfl); rw [HS5] at this; exact this
               have c5f : (w5.setCell ⟨wb, 2, none⟩ (.slice (some ⟨g5, 0, none⟩) (ls'.length + 2) k5)).cell? ⟨wb, 2, none⟩ = some (.slice (some ⟨g5, 0, none⟩) (ls'.length + 2) k5) := by rw [cell_of_row _ _ _ _ _ _ PB5.out.1.blk]; rfl
               have f5f : (w5.setCell ⟨wb, 2, none⟩ (.slice (some ⟨g5, 0, none⟩) (ls'.length + 2) k5)).frozen? ⟨wb, 2, none⟩ = false := by simp [World.frozen?, PB5.out.1.blk]
               have HC5 : Hid ((w5.setCell ⟨wb, 2, none⟩ (.slice (some ⟨g5, 0, none⟩) (ls'.length + 2) k5)).cell? ⟨wb, 2, none⟩ = some (.slice (some ⟨g5, 0, none⟩) (ls'.length + 2) k5)) := c5f
               have HF5 : Hid ((w5.setCell ⟨wb, 2, none⟩ (.slice (some ⟨g5, 0, none⟩) (ls'.length + 2) k5)).frozen? ⟨wb, 2, none⟩ = false) := f5f
               clear c5f f5f)
            | (at_builtin; refine wpList_append_lies _ rfl _ _ _ rfl 0 25 i0 _ 1 24 Tryd.underlying39 hi0 hz0 hz1 hz2 rfl (by omega) (.slice (some ⟨g5, 0, none⟩) (ls'.length + 2) k5) (ls'.length + 2) ((ls' ++ [.slice (some ⟨gx, 0, none⟩) q q]) ++ [.slice (some ⟨ga, 0, none⟩) (q + 1) ca]) (by rfl) (O5.out.alloc _) ⟨w5.heap.size, 0, none⟩ 1 1 [.slice (some ⟨gb, 0, none⟩) (q + 2) cb] (by rfl) (by rfl) (World.news_of_block (cs := #[.slice (some ⟨gb, 0, none⟩) (q + 2) cb]) (t := 25) (fr := (0, 0)) (new_at HS5 _)) (by simp [Value.oneCell']) (by omega) (by unfold maxLen; omega) (by omega) (by omega) (w5.heap.size + 1) (by simp) ?_
               intro g6 k6 w6 hown6 hgrow6 hat6 hlt6
               have q61 : w6.cell? ⟨wb, 2, none⟩ = some (.slice (some ⟨g5, 0, none⟩) (ls'.length + 2) k5) := (hgrow6.cell_far ⟨wb, 2, none⟩ (by simp; omega) nb5).trans ((cell_alloc _ _ wb 2 (by rw [HS5]; exact hwb5)).trans HC5.out)
               have q62 : w6.frozen? ⟨wb, 2, none⟩ = false := (hgrow6.frozen_far ⟨wb, 2, none⟩ (by simp; omega) nb5).trans ((frozen_alloc _ _ wb 2 (by rw [HS5]; exact hwb5)).trans HF5.out)
               have PB6 : Hid (BookAt (w6.setCell ⟨wb, 2, none⟩ (.slice (some ⟨g6, 0, none⟩) (ls'.length + 3) k6)) wb [tv, rv, (.slice (some ⟨g6, 0, none⟩) (ls'.length + 3) k6), ov] [ts, rs, (((ls' ++ [.slice (some ⟨gx, 0, none⟩) q q]) ++ [.slice (some ⟨ga, 0, none⟩) (q + 1) ca]) ++ [.slice (some ⟨gb, 0, none⟩) (q + 2) cb]), rws] ∧ Fr (wb :: (Value.slice (some ⟨g5, 0, none⟩) (ls'.length + 2) k5).ownBlock.toList) (w5.setCell ⟨wb, 2, none⟩ (.slice (some ⟨g5, 0, none⟩) (ls'.length + 2) k5)) (w6.setCell ⟨wb, 2, none⟩ (.slice (some ⟨g6, 0, none⟩) (ls'.length + 3) k6))) := by
                 have h := PB5.out.1.push (k := 2) (x := .slice (some ⟨gb, 0, none⟩) (q + 2) cb) (gg := g6) (cp := k6) (w3 := w6) (by simp) (by simp) hgrow6 (by simpa [fty] using hown6) (hat6.imp_right (fun e => e.trans (by rw [HS5])))
                 simpa [Hid] using h
               have HS6 : (w6.setCell ⟨wb, 2, none⟩ (.slice (some ⟨g6, 0, none⟩) (ls'.length + 3) k6)).heap.size = w6.heap.size := setCell_size _ _ _
               have O6 : Hid ((w6.setCell ⟨wb, 2, none⟩ (.slice (some ⟨g6, 0, none⟩) (ls'.length + 3) k6)).ownsRow 0 25 1 (.slice (some ⟨g6, 0, none⟩) (ls'.length + 3) k6) (ls'.length + 3) (((ls' ++ [.slice (some ⟨gx, 0, none⟩) q q]) ++ [.slice (some ⟨ga, 0, none⟩) (q + 1) ca]) ++ [.slice (some ⟨gb, 0, none⟩) (q + 2) cb])) := by
                 have h := PB6.out.1.own 2 (by simp) (by simp)
                 simpa [Hid, fty] using h
               have nb6 : some wb ≠ (Value.slice (some ⟨g6, 0, none⟩) (ls'.length + 3) k6).ownBlock := fun e => by
                 obtain ⟨cs, fr, hc⟩ := own_ty O6.out e.symm
                 rw [PB6.out.1.blk] at hc
                 simp at hc
               have hwb6 : wb < w6.heap.size := by have := PB6.out.1.lt wb (.inl rfl); rw [HS6] at this; exact this
               have c6f : (w6.setCell ⟨wb, 2, none⟩ (.slice (some ⟨g6, 0, none⟩) (ls'.length + 3) k6)).cell? ⟨wb, 2, none⟩ = some (.slice (some ⟨g6, 0, none⟩) (ls'.length + 3) k6) := by rw [cell_of_row _ _ _ _ _ _ PB6.out.1.blk]; rfl
               have f6f : (w6.setCell ⟨wb, 2, none⟩ (.slice (some ⟨g6, 0, none⟩) (ls'.length + 3) k6)).frozen? ⟨wb, 2, none⟩ = false := by simp [World.frozen?, PB6.out.1.blk]
               have HC6 : Hid ((w6.setCell ⟨wb, 2, none⟩ (.slice (some ⟨g6, 0, none⟩) (ls'.length + 3) k6)).cell? ⟨wb, 2, none⟩ = some (.slice (some ⟨g6, 0, none⟩) (ls'.length + 3) k6)) := c6f
               have HF6 : Hid ((w6.setCell ⟨wb, 2, none⟩ (.slice (some ⟨g6, 0, none⟩) (ls'.length + 3) k6)).frozen? ⟨wb, 2, none⟩ = false) := f6f
               clear c6f f6f)
            | (at_builtin; refine wpList_append_lies _ rfl _ _ _ rfl 0 25 i0 _ 1 24 Tryd.underlying39 hi0 hz0 hz1 hz2 rfl (by omega) (.slice (some ⟨g6, 0, none⟩) (ls'.length + 3) k6) (ls'.length + 3) (((ls' ++ [.slice (some ⟨gx, 0, none⟩) q q]) ++ [.slice (some ⟨ga, 0, none⟩) (q + 1) ca]) ++ [.slice (some ⟨gb, 0, none⟩) (q + 2) cb]) (by rfl) (O6.out.alloc _) ⟨w6.heap.size, 0, none⟩ 1 1 [.slice (some ⟨gc, 0, none⟩) (q + 3) cc] (by rfl) (by rfl) (World.news_of_block (cs := #[.slice (some ⟨gc, 0, none⟩) (q + 3) cc]) (t := 25) (fr := (0, 0)) (new_at HS6 _)) (by simp [Value.oneCell']) (by omega) (by unfold maxLen; omega) (by omega) (by omega) (w6.heap.size + 1) (by simp) ?_
               intro g7 k7 w7 hown7 hgrow7 hat7 hlt7
               have q71 : w7.cell? ⟨wb, 2, none⟩ = some (.slice (some ⟨g6, 0, none⟩) (ls'.length + 3) k6) := (hgrow7.cell_far ⟨wb, 2, none⟩ (by simp; omega) nb6).trans ((cell_alloc _ _ wb 2 (by rw [HS6]; exact hwb6)).trans HC6.out)
               have q72 : w7.frozen? ⟨wb, 2, none⟩ = false := (hgrow7.frozen_far ⟨wb, 2, none⟩ (by simp; omega) nb6).trans ((frozen_alloc _ _ wb 2 (by rw [HS6]; exact hwb6)).trans HF6.out)
               have PB7 : Hid (BookAt (w7.setCell ⟨wb, 2, none⟩ (.slice (some ⟨g7, 0, none⟩) (ls'.length + 4) k7)) wb [tv, rv, (.slice (some ⟨g7, 0, none⟩) (ls'.length + 4) k7), ov] [ts, rs, ((((ls' ++ [.slice (some ⟨gx, 0, none⟩) q q]) ++ [.slice (some ⟨ga, 0, none⟩) (q + 1) ca]) ++ [.slice (some ⟨gb, 0, none⟩) (q + 2) cb]) ++ [.slice (some ⟨gc, 0, none⟩) (q + 3) cc]), rws] ∧ Fr (wb :: (Value.slice (some ⟨g6, 0, none⟩) (ls'.length + 3) k6).ownBlock.toList) (w6.setCell ⟨wb, 2, none⟩ (.slice (some ⟨g6, 0, none⟩) (ls'.length + 3) k6)) (w7.setCell ⟨wb, 2, none⟩ (.slice (some ⟨g7, 0, none⟩) (ls'.length + 4) k7))) := by
                 have h := PB6.out.1.push (k := 2) (x := .slice (some ⟨gc, 0, none⟩) (q + 3) cc) (gg := g7) (cp := k7) (w3 := w7) (by simp) (by simp) hgrow7 (by simpa [fty] using hown7) (hat7.imp_right (fun e => e.trans (by rw [HS6])))
                 simpa [Hid] using h))
          have hs4 : w3.heap.size + 1 ≤ w4.heap.size := by have := hgrow4.size; simpa using this
          have hs5 : w4.heap.size + 1 ≤ w5.heap.size := by have := hgrow5.size; rw [World.size_alloc, HS4] at this; exact this
          have hs6 : w5.heap.size + 1 ≤ w6.heap.size := by have := hgrow6.size; rw [World.size_alloc, HS5] at this; exact this
          have hs7 : w6.heap.size + 1 ≤ w7.heap.size := by have := hgrow7.size; rw [World.size_alloc, HS6] at this; exact this
          -- what the four pushes leave as it was
          have good : ∀ b, b < w3.heap.size → b ≠ wb → (Value.slice lla ls'.length llc).ownBlock ≠ some b → g7 ≠ b ∧ (w7.setCell ⟨wb, 2, none⟩ (.slice (some ⟨g7, 0, none⟩) (ls'.length + 4) k7)).heap[b]? = w3.heap[b]? := fun b h1 h2 h3 => by
            have x4 : g4 ≠ b := by
              rintro rfl
              rcases hat4 with x | x
              · exact h3 x
              · omega
            have x5 : g5 ≠ b := by
              rintro rfl
              rcases hat5 with x | x
              · simp only [Value.ownBlock, Option.some.injEq] at x; exact x4 x
              · omega
            have x6 : g6 ≠ b := by
              rintro rfl
              rcases hat6 with x | x
              · simp only [Value.ownBlock, Option.some.injEq] at x; exact x5 x
              · omega
            have x7 : g7 ≠ b := by
              rintro rfl
              rcases hat7 with x | x
              · simp only [Value.ownBlock, Option.some.injEq] at x; exact x6 x
              · omega
            have e4 := PB4.out.2.block b h1 (by simp only [List.mem_cons, Option.mem_toList, not_or]; exact ⟨h2, h3⟩)
            have e5 := PB5.out.2.block b (by rw [HS4]; omega) (by simp only [List.mem_cons, Option.mem_toList, not_or]; exact ⟨h2, fun x => by simp only [Value.ownBlock, Option.some.injEq] at x; exact x4 x⟩)
            have e6 := PB6.out.2.block b (by rw [HS5]; omega) (by simp only [List.mem_cons, Option.mem_toList, not_or]; exact ⟨h2, fun x => by simp only [Value.ownBlock, Option.some.injEq] at x; exact x5 x⟩)
            have e7 := PB7.out.2.block b (by rw [HS6]; omega) (by simp only [List.mem_cons, Option.mem_toList, not_or]; exact ⟨h2, fun x => by simp only [Value.ownBlock, Option.some.injEq] at x; exact x6 x⟩)
            exact ⟨x7, e7.trans (e6.trans (e5.trans e4))⟩
          have old : ∀ b, b < W0.heap.size → b ≠ gx → w3.heap[b]? = W0.heap[b]? := fun b h1 h2 =>
            (hb3.block b (by omega)).trans ((hb2.block b (by omega)).trans ((hb1.block b (by omega)).trans ((HF1.out.block b (by simp; omega) (by simpa using h2)).trans (Below.heap_alloc _ _ _ h1))))
          have nv : ∀ b, (∃ cs fr, W0.heap[b]? = some (.cells cs 30 fr)) → b < w3.heap.size ∧ b ≠ wb ∧ ∀ u ∈ [tv, rv, .slice lla ls'.length llc, ov], u.ownBlock ≠ some b := fun b hb => by
            have h1 := HBK'.out.notVal hb
            obtain ⟨cs, fr, hc⟩ := hb
            have h2 := (Array.getElem?_eq_some_iff.1 hc).1
            exact ⟨by omega, fun e => h1 wb (.inl rfl) e.symm, fun u hu e => h1 b (.inr ⟨u, hu, e⟩) rfl⟩
          have nw : ∀ b, W0.heap.size ≤ b → b < w3.heap.size → b < w3.heap.size ∧ b ≠ wb ∧ ∀ u ∈ [tv, rv, .slice lla ls'.length llc, ov], u.ownBlock ≠ some b := fun b h1 h2 =>
            ⟨h2, fun e => by have := HBK'.out.lt wb (.inl rfl); omega, fun u hu e => by have := HBK'.out.lt b (.inr ⟨u, hu, e⟩); omega⟩
          rw [World.size_alloc] at hga1 hgb1 hgc1
          have G : ∀ b, (P' b ∨ b = gx ∨ b = ga ∨ b = gb ∨ b = gc) → b < w3.heap.size ∧ b ≠ wb ∧ ∀ u ∈ [tv, rv, .slice lla ls'.length llc, ov], u.ownBlock ≠ some b := fun b hb => by
            rcases hb with h | rfl | rfl | rfl | rfl
            · have := HAP'.out.lt b h
              exact ⟨by omega, HAP'.out.wb b h, HAP'.out.own b h⟩
            · exact nv _ ⟨_, _, HRB.out⟩
            · exact nw _ (by omega) (by omega)
            · exact nw _ (by omega) (by omega)
            · exact nw _ (by omega) (by omega)
          have G7 : ∀ b, (P' b ∨ b = gx ∨ b = ga ∨ b = gb ∨ b = gc) → (w7.setCell ⟨wb, 2, none⟩ (.slice (some ⟨g7, 0, none⟩) (ls'.length + 4) k7)).heap[b]? = w3.heap[b]? := fun b hb =>
            (good b (G b hb).1 (G b hb).2.1 ((G b hb).2.2 _ (by simp))).2
          have CLOSE : Hid (∃ (lv' : Value) (ls'' : List Value) (P'' : Nat → Prop), ls''.length = ls.length + 4 * (k + 1) ∧ BookAt (w7.setCell ⟨wb, 2, none⟩ (.slice (some ⟨g7, 0, none⟩) (ls'.length + 4) k7)) wb [tv, rv, lv', ov] [ts, rs, ls'', rws] ∧ Apart (w7.setCell ⟨wb, 2, none⟩ (.slice (some ⟨g7, 0, none⟩) (ls'.length + 4) k7)) wb [tv, rv, lv', ov] P'' ∧
              (∀ i (h : i < ls''.length), KeptRow (w7.setCell ⟨wb, 2, none⟩ (.slice (some ⟨g7, 0, none⟩) (ls'.length + 4) k7)) P'' i ls''[i]) ∧ (∀ b, P b → P'' b) ∧ (∀ b, P'' b → P b ∨ w.heap.size ≤ b ∨ ∃ j, ∃ h : j < M.length, j < k + 1 ∧ M[j].1 = b) ∧ (∀ p ∈ M.drop (k + 1), RowBlk (w7.setCell ⟨wb, 2, none⟩ (.slice (some ⟨g7, 0, none⟩) (ls'.length + 4) k7)) p) ∧
              (∀ b, (some ⟨lg, 0, none⟩ : Option Addr) = some b → (w7.setCell ⟨wb, 2, none⟩ (.slice (some ⟨g7, 0, none⟩) (ls'.length + 4) k7)).heap[b.block]? = w.heap[b.block]? ∧ b.block ≠ wb ∧ ∀ u ∈ [tv, rv, lv', ov], u.ownBlock ≠ some b.block) ∧ w.heap.size ≤ (w7.setCell ⟨wb, 2, none⟩ (.slice (some ⟨g7, 0, none⟩) (ls'.length + 4) k7)).heap.size ∧ Fr (wb :: (lv.ownBlock.toList ++ M.map Prod.fst)) w (w7.setCell ⟨wb, 2, none⟩ (.slice (some ⟨g7, 0, none⟩) (ls'.length + 4) k7)) ∧ (lv'.ownBlock = lv.ownBlock ∨ ∃ g, lv'.ownBlock = some g ∧ w.heap.size ≤ g)) := by
            refine ⟨_, _, fun b => P' b ∨ b = gx ∨ b = ga ∨ b = gb ∨ b = gc, ?_, PB7.out.1, ?_, ?_, fun b h => .inl (HPP.out b h), ?_, ?_, ?_, ?_, ?_, ?_⟩
            · simp; have := HLEN.out; omega
            · refine ⟨fun b h => by rw [setCell_size]; have := (G b h).1; omega, fun b h => (G b h).2.1, fun b h u hu => ?_⟩
              simp only [List.mem_cons, List.not_mem_nil, or_false] at hu
              have g := (G b h).2.2
              rcases hu with rfl | rfl | rfl | rfl
              · exact g _ (by simp)
              · exact g _ (by simp)
              · intro e
                simp only [Value.ownBlock, Option.some.injEq] at e
                exact (good b (G b h).1 (G b h).2.1 (g _ (by simp))).1 e
              · exact g _ (by simp)
            · intro i h
              rcases four_at _ _ _ _ _ i h with ⟨hi, e⟩ | ⟨hi, e⟩ | ⟨hi, e⟩ | ⟨hi, e⟩ | ⟨hi, e⟩
              · rw [e]
                exact (KL'.out i hi).keep (fun b hb => .inl hb) (fun b hb => (G7 b (.inl hb)).trans (old b (HAP'.out.lt b hb) (fun e => HGP.out (e ▸ hb))))
              · rw [e, hi]
                exact ⟨_, q, q, rfl, by omega, .inr ⟨gx, rfl, .inr (.inl rfl), HR4.out.keep (G7 gx (.inr (.inl rfl)))⟩⟩
              · rw [e, hi]
                refine kept_of_own (base := W1.heap.size + 1) (n := q + 1) ?_ (by omega) (fun g hg => by simp only [Value.ownBlock, Option.some.injEq] at hg; exact .inr (.inr (.inl hg.symm)))
                rw [marks_same _ 1 _ hm4 (by omega)]
                exact own_keep2 HO1.out (fun g hg => by simp only [Value.ownBlock, Option.some.injEq] at hg; subst hg; exact (G7 ga (.inr (.inr (.inl rfl)))).trans ((hb3.block ga (by omega)).trans (hb2.block ga (by omega))))
              · rw [e, hi]
                refine kept_of_own (base := w1.heap.size + 1) (n := q + 2) ?_ (by omega) (fun g hg => by simp only [Value.ownBlock, Option.some.injEq] at hg; exact .inr (.inr (.inr (.inl hg.symm))))
                rw [marks_same _ 2 _ hm4 (by omega)]
                exact own_keep2 HO2.out (fun g hg => by simp only [Value.ownBlock, Option.some.injEq] at hg; subst hg; exact (G7 gb (.inr (.inr (.inr (.inl rfl))))).trans (hb3.block gb (by omega)))
              · rw [e, hi]
                refine kept_of_own (base := w2.heap.size + 1) (n := q + 3) ?_ (by omega) (fun g hg => by simp only [Value.ownBlock, Option.some.injEq] at hg; exact .inr (.inr (.inr (.inr hg.symm))))
                rw [marks_same _ 3 _ hm4 (by omega)]
                exact own_keep2 HO3.out (fun g hg => by simp only [Value.ownBlock, Option.some.injEq] at hg; subst hg; exact G7 gc (.inr (.inr (.inr (.inr rfl)))))
            · intro b hb
              rcases hb with h | rfl | rfl | rfl | rfl
              · rcases HPB.out b h with x | x | ⟨j, hj, hjk, x⟩
                · exact .inl x
                · exact .inr (.inl x)
                · exact .inr (.inr ⟨j, hj, by omega, x⟩)
              · exact .inr (.inr HMK0.out)
              · exact .inr (.inl (by omega))
              · exact .inr (.inl (by omega))
              · exact .inr (.inl (by omega))
            · intro p hp
              have h1 : RowBlk W0 p := HMR.out p (by rw [List.drop_eq_getElem_cons hlt]; exact List.mem_cons_of_mem _ hp)
              have h2 := HGD.out p hp
              have h3 := nv p.1 ⟨_, _, h1⟩
              unfold RowBlk at h1 ⊢
              rw [(good p.1 h3.1 h3.2.1 (h3.2.2 _ (by simp))).2, old p.1 (Array.getElem?_eq_some_iff.1 h1).1 h2]
              exact h1
            · intro b hb
              cases hb
              obtain ⟨l1, l2, l3⟩ := HLA.out
              obtain ⟨m1, m2⟩ := HLG.out
              have hgd := good lg (by omega) l2 (l3 _ (by simp))
              refine ⟨hgd.2.trans ((old lg (by omega) m1).trans l1), l2, fun u hu => ?_⟩
              simp only [List.mem_cons, List.not_mem_nil, or_false] at hu
              rcases hu with rfl | rfl | rfl | rfl
              · exact l3 _ (by simp)
              · exact l3 _ (by simp)
              · intro e
                simp only [Value.ownBlock, Option.some.injEq] at e
                exact hgd.1 e
              · exact l3 _ (by simp)
            · rw [setCell_size]; omega
            · have low : ∀ g, (Value.slice lla ls'.length llc).ownBlock = some g → g ∈ (wb :: (lv.ownBlock.toList ++ M.map Prod.fst)) ∨ w.heap.size ≤ g := fun g hg => by
                rcases HLO.out with x | ⟨g', x, y⟩
                · left; rw [hg] at x; simp [← x]
                · right; rw [hg] at x; simp only [Option.some.injEq] at x; omega
              have l4 : g4 ∈ (wb :: (lv.ownBlock.toList ++ M.map Prod.fst)) ∨ w.heap.size ≤ g4 := by
                rcases hat4 with x | x
                · exact low g4 x
                · right; omega
              have l5 : g5 ∈ (wb :: (lv.ownBlock.toList ++ M.map Prod.fst)) ∨ w.heap.size ≤ g5 := by
                rcases hat5 with x | x
                · simp only [Value.ownBlock, Option.some.injEq] at x; rw [← x]; exact l4
                · right; omega
              have l6 : g6 ∈ (wb :: (lv.ownBlock.toList ++ M.map Prod.fst)) ∨ w.heap.size ≤ g6 := by
                rcases hat6 with x | x
                · simp only [Value.ownBlock, Option.some.injEq] at x; rw [← x]; exact l5
                · right; omega
              have f0 := HFR.out.alloc (.cells #[.int .i64 mv, .string ⟨#[]⟩] 30)
              have f1 := f0.trans HF1.out (fun i hi => .inl (by rw [List.mem_singleton.1 hi]; exact List.mem_cons_of_mem _ (List.mem_append_right _ HGM.out)))
              have f3 := ((f1.then hb1).then hb2).then hb3
              have f4 := f3.trans PB4.out.2 (fun i hi => by
                rcases List.mem_cons.1 hi with rfl | hi
                · exact .inl (List.mem_cons_self)
                · exact low i (by simpa using hi))
              have f5 := f4.trans PB5.out.2 (fun i hi => by
                rcases List.mem_cons.1 hi with rfl | hi
                · exact .inl (List.mem_cons_self)
                · have : i = g4 := by simpa [Value.ownBlock] using hi
                  rw [this]; exact l4)
              have f6 := f5.trans PB6.out.2 (fun i hi => by
                rcases List.mem_cons.1 hi with rfl | hi
                · exact .inl (List.mem_cons_self)
                · have : i = g5 := by simpa [Value.ownBlock] using hi
                  rw [this]; exact l5)
              exact f6.trans PB7.out.2 (fun i hi => by
                rcases List.mem_cons.1 hi with rfl | hi
                · exact .inl (List.mem_cons_self)
                · have : i = g6 := by simpa [Value.ownBlock] using hi
                  rw [this]; exact l6)
            · have o4 : lv.ownBlock = some g4 ∨ w.heap.size ≤ g4 := by
                rcases hat4 with x | x
                · rcases HLO.out with y | ⟨g', y, y2⟩
                  · left; rw [← y, x]
                  · right; rw [x] at y; simp only [Option.some.injEq] at y; omega
                · right; omega
              have o5 : lv.ownBlock = some g5 ∨ w.heap.size ≤ g5 := by
                rcases hat5 with x | x
                · simp only [Value.ownBlock, Option.some.injEq] at x; rw [← x]; exact o4
                · right; omega
              have o6 : lv.ownBlock = some g6 ∨ w.heap.size ≤ g6 := by
                rcases hat6 with x | x
                · simp only [Value.ownBlock, Option.some.injEq] at x; rw [← x]; exact o5
                · right; omega
              have o7 : lv.ownBlock = some g7 ∨ w.heap.size ≤ g7 := by
                rcases hat7 with x | x
                · simp only [Value.ownBlock, Option.some.injEq] at x; rw [← x]; exact o6
                · right; omega
              rcases o7 with x | x
              · left; rw [x]; rfl
              · right; exact ⟨g7, rfl, x⟩
          clear good old nv nw G G7
          go_roundw
          case rel => exact ⟨k + 1, by omega, by go_num, CLOSE.out⟩
          case measure => simp [intOf]; omega
    · have hke : k = M.length := by omega
      subst hke
      obtain ⟨oa, oc, hov⟩ : ∃ a c, ov = .slice a rws.length c := by
        rcases (hbk.own 3 (by simp) (by simp)).2 with ⟨h1, h2⟩ | ⟨gg, cp, _, h1, _⟩
        · exact ⟨none, 0, by have h3 : rws.length = 0 := h2
                             rw [h3]; exact h1⟩
        · exact ⟨_, cp, h1⟩
      subst hov
      have i1' : ¬ ((M.length : Nat) : Int) < (M.length : Int) := by omega
      have c3 : W0.cell? ⟨wb, 3, none⟩ = some (.slice oa rws.length oc) := by rw [cell_of_row _ _ _ _ _ _ hbk.blk]; rfl
      have hmk : markI rws.length = -1000 - (rws.length : Int) / 4 := by unfold markI; omega
      have hmb : -1000 - (rws.length : Int) / 4 ≤ 0 ∧ -9000000000000 ≤ -1000 - (rws.length : Int) / 4 := by omega
      have HMK : Hid (markI rws.length = -1000 - (rws.length : Int) / 4) := hmk
      clear hmk
      generalize hmv : -1000 - (rws.length : Int) / 4 = mv at *
      have hbelow0 : Hid (BookAt W0 wb [tv, rv, lv', .slice oa rws.length oc] [ts, rs, ls', rws]) := hbk
      have HAP' : Hid (Apart W0 wb [tv, rv, lv', .slice oa rws.length oc] P') := hap
      have KL' : Hid (∀ i (h : i < ls'.length), KeptRow W0 P' i ls'[i]) := hkl
      have HPP : Hid (∀ b, P b → P' b) := hPP
      have HLA : Hid (∀ b, la = some b → W0.heap[b.block]? = w.heap[b.block]? ∧ b.block ≠ wb ∧ ∀ u ∈ [tv, rv, lv', .slice oa rws.length oc], u.ownBlock ≠ some b.block) := hla
      have HLEN : Hid (ls'.length = ls.length + 4 * M.length) := hlen
      have HFR : Hid (Fr (wb :: (lv.ownBlock.toList ++ M.map Prod.fst)) w W0) := hFR
      have own0 : W0.ownsRow 0 25 1 (.slice la M.length lc) M.length (M.map rval) := own_keep2 HM.out.own (fun g hg => by
        cases la with
        | none => cases hg
        | some b => simp only [Value.ownBlock, Option.some.injEq] at hg; subst hg; exact (hla b rfl).1)
      have HOWN0 : Hid (W0.ownsRow 0 25 1 (.slice la M.length lc) M.length (M.map rval)) := own0
      have HPB : Hid (∀ b, P' b → P b ∨ w.heap.size ≤ b ∨ ∃ j, ∃ h : j < M.length, j < M.length ∧ M[j].1 = b) := hP'b
      have HLO : Hid (lv'.ownBlock = lv.ownBlock ∨ ∃ g, lv'.ownBlock = some g ∧ w.heap.size ≤ g) := hLO
      clear hbk hap hkl hPP hla hlen hFR own0 hP'b hMr hLO
      go_wp2_with fail
      go_loopw [12] (fun i wr => ∃ q : Nat, q ≤ M.length ∧ i = .int .i64 q ∧ Fr (Value.slice la M.length lc).ownBlock.toList (W0.alloc (.cells #[.int .i64 mv, .string ⟨#[]⟩] 30)) wr ∧ wr.ownsRow 0 25 1 (.slice la M.length lc) M.length (List.replicate q (.slice (some ⟨W0.heap.size, 0, none⟩) 1 1) ++ (M.map rval).drop q)) (fun i _ => M.length - (intOf i).toNat)
      case atStart => exact ⟨0, Nat.zero_le _, rfl, Fr.refl _ _, by simpa using HOWN0.out.alloc _⟩
      case round =>
        obtain ⟨q, hq, rfl, hF, hO⟩ := hrel
        by_cases hql : q < M.length
        · obtain ⟨lg, cp, hfe, hlg1, hlg2⟩ := hO.form (by omega)
          simp only [Value.slice.injEq, true_and] at hfe
          obtain ⟨rfl, rfl⟩ := hfe
          have hO2 := hO
          rcases hO2.2 with ⟨h1, _⟩ | ⟨b, cap, cur, hv, hb, hh, c1, c2, cz, c4⟩
          · cases h1
          simp only [Value.slice.injEq, Option.some.injEq, Addr.mk.injEq, true_and, and_true] at hv
          obtain ⟨rfl, rfl⟩ := hv
          obtain ⟨x1, y1⟩ : ∃ x, wr.cell? ⟨lg, q, none⟩ = some x := by
            rw [cell_of_row _ _ _ _ _ _ hh]; exact ⟨_, Array.getElem?_eq_getElem (by omega)⟩
          have f1 : wr.frozen? ⟨lg, q, none⟩ = false := by simp [World.frozen?, hh]
          have k0 : (0 : Int) ≤ (q : Int) := by omega
          have k1 : (q : Int) < (M.length : Int) := by omega
          have NEW : Hid ((wr.setCell ⟨lg, q, none⟩ (.slice (some ⟨W0.heap.size, 0, none⟩) 1 1)).ownsRow 0 25 1 (.slice (some ⟨lg, 0, none⟩) M.length lc) M.length (List.replicate (q + 1) (.slice (some ⟨W0.heap.size, 0, none⟩) 1 1) ++ (M.map rval).drop (q + 1))) := by
            refine ⟨by simp; omega, .inr ⟨lg, lc, cur.setIfInBounds q (.slice (some ⟨W0.heap.size, 0, none⟩) 1 1), rfl, hb, heap_setCell_same _ _ _ _ _ _ hh, c1, c2, by simpa using cz, ?_⟩⟩
            rw [Nat.mul_one] at c4 ⊢
            rw [Array.toList_setIfInBounds, List.take_set, c4, List.set_append_right _ _ (by simp), List.length_replicate, Nat.sub_self, List.drop_eq_getElem_cons (by simpa using hql), List.set_cons_zero, List.replicate_succ']
            simp
          have HF : Hid (Fr (Value.slice (some ⟨lg, 0, none⟩) M.length lc).ownBlock.toList (W0.alloc (.cells #[.int .i64 mv, .string ⟨#[]⟩] 30)) wr) := hF
          clear hO hO2 hh c4 hF
          go_wp2
          go_roundw
          case rel => exact ⟨q + 1, by omega, by go_num, HF.out.setCell (p := ⟨lg, q, none⟩) (.inl (by simp [Value.ownBlock])) _, NEW.out⟩
          case measure => simp [intOf]; omega
        · have k1 : ¬ (q : Int) < (M.length : Int) := by omega
          have hqe : q = M.length := by omega
          have hO3 : wr.ownsRow 0 25 1 (.slice la M.length lc) M.length (List.replicate M.length (.slice (some ⟨W0.heap.size, 0, none⟩) 1 1)) := by
            rw [hqe, List.drop_of_length_le (by simp), List.append_nil] at hO; exact hO
          obtain ⟨W1, rfl⟩ : ∃ W1, W1 = wr := ⟨wr, rfl⟩
          have HO3 : Hid (W1.ownsRow 0 25 1 (.slice la M.length lc) (M.length) (List.replicate (M.length) (.slice (some ⟨W0.heap.size, 0, none⟩) 1 1))) := hO3
          have NL : Hid (∀ j, (j = wb ∨ ∃ u ∈ [tv, rv, lv', .slice oa rws.length oc], u.ownBlock = some j) → j ∉ (Value.slice la M.length lc).ownBlock.toList) := fun j hj hm => by
            cases la with
            | none => cases hm
            | some b =>
              have e : j = b.block := by simpa [Value.ownBlock] using hm
              subst e
              obtain ⟨_, h2, h3⟩ := HLA.out b rfl
              rcases hj with h | ⟨u, hu, h⟩
              · exact h2 h
              · exact h3 u hu h
          have BF : Hid (∀ A B, BookAt A wb [tv, rv, lv', .slice oa rws.length oc] [ts, rs, ls', rws] → Fr (Value.slice la M.length lc).ownBlock.toList A B → BookAt B wb [tv, rv, lv', .slice oa rws.length oc] [ts, rs, ls', rws]) := fun A B hA hf => hA.keep (fun j hj => hf.block j (hA.lt j hj) (NL.out j hj))
          have BW1 : Hid (BookAt W1 wb [tv, rv, lv', .slice oa rws.length oc] [ts, rs, ls', rws]) := BF.out _ _ (hbelow0.out.below ((Below.refl _ _).alloc (Nat.le_refl _) _)) hF
          have HF1 : Hid (Fr (Value.slice la M.length lc).ownBlock.toList (W0.alloc (.cells #[.int .i64 mv, .string ⟨#[]⟩] 30)) W1) := hF
          have hz01 : W0.heap.size < W1.heap.size := by have := hF.size; simp at this; omega
          clear hO hO3 hF
          obtain ⟨r0, hr0, hx0, hx1, hx2⟩ := info_parts info_rows
          go_wp2_with (first
            | (at_builtin; refine wpList_append_same _ rfl _ _ _ rfl 25 i0 _ 24 Tryd.underlying39 hi0 hz0 hz1 hz2 rfl (.slice la M.length lc) M.length (.slice (some ⟨W0.heap.size, 0, none⟩) 1 1) (by rfl) (HO3.out.alloc _) ⟨W1.heap.size, 0, none⟩ 1 1 (by rfl) (World.news_of_block (cs := #[.slice (some ⟨W0.heap.size, 0, none⟩) 1 1]) (t := 25) (fr := (0, 0)) (heap_alloc_new W1 _)) rfl (by omega) (by unfold maxLen; omega) (by omega) ?_
               intro ga ca w1 ho1 hfill1 hfr1 hat1
               have HL1 : Hid (w1.ownsRow 0 25 1 (.slice la M.length lc) (M.length) (List.replicate (M.length) (.slice (some ⟨W0.heap.size, 0, none⟩) 1 1))) := hfill1 _ _ (HO3.out.alloc _)
               have HA1 : Hid (w1.ownsRow 0 25 1 (.slice (some ⟨ga, 0, none⟩) (M.length + 1) ca) (M.length + 1) (List.replicate (M.length + 1) (.slice (some ⟨W0.heap.size, 0, none⟩) 1 1))) := ho1
               have BB1 : Hid (BookAt w1 wb [tv, rv, lv', .slice oa rws.length oc] [ts, rs, ls', rws]) := BF.out _ _ (BW1.out.below ((Below.refl _ _).alloc (Nat.le_refl _) _)) hfr1
               have hs1 : W1.heap.size < w1.heap.size := by have := hfr1.size; simp at this; omega
               clear ho1)
            | (at_builtin; refine wpList_append_same _ rfl _ _ _ rfl 25 i0 _ 24 Tryd.underlying39 hi0 hz0 hz1 hz2 rfl (.slice la M.length lc) M.length (.slice (some ⟨W0.heap.size, 0, none⟩) 1 1) (by rfl) (HL1.out.alloc _) ⟨w1.heap.size, 0, none⟩ 2 2 (by rfl) (World.news_of_block (cs := #[.slice (some ⟨W0.heap.size, 0, none⟩) 1 1, .slice (some ⟨W0.heap.size, 0, none⟩) 1 1]) (t := 25) (fr := (0, 0)) (heap_alloc_new w1 _)) rfl (by omega) (by unfold maxLen; omega) (by omega) ?_
               intro gb cb w2 ho2 hfill2 hfr2 hat2
               have HL2 : Hid (w2.ownsRow 0 25 1 (.slice la M.length lc) (M.length) (List.replicate (M.length) (.slice (some ⟨W0.heap.size, 0, none⟩) 1 1))) := hfill2 _ _ (HL1.out.alloc _)
               have HA2 : Hid (w2.ownsRow 0 25 1 (.slice (some ⟨ga, 0, none⟩) (M.length + 1) ca) (M.length + 1) (List.replicate (M.length + 1) (.slice (some ⟨W0.heap.size, 0, none⟩) 1 1))) := hfill2 _ _ (HA1.out.alloc _)
               have HB2 : Hid (w2.ownsRow 0 25 1 (.slice (some ⟨gb, 0, none⟩) (M.length + 2) cb) (M.length + 2) (List.replicate (M.length + 2) (.slice (some ⟨W0.heap.size, 0, none⟩) 1 1))) := ho2
               have BB2 : Hid (BookAt w2 wb [tv, rv, lv', .slice oa rws.length oc] [ts, rs, ls', rws]) := BF.out _ _ (BB1.out.below ((Below.refl _ _).alloc (Nat.le_refl _) _)) hfr2
               have hs2 : w1.heap.size < w2.heap.size := by have := hfr2.size; simp at this; omega
               clear ho2)
            | (at_builtin; refine wpList_append_same _ rfl _ _ _ rfl 25 i0 _ 24 Tryd.underlying39 hi0 hz0 hz1 hz2 rfl (.slice la M.length lc) M.length (.slice (some ⟨W0.heap.size, 0, none⟩) 1 1) (by rfl) (HL2.out.alloc _) ⟨w2.heap.size, 0, none⟩ 3 3 (by rfl) (World.news_of_block (cs := #[.slice (some ⟨W0.heap.size, 0, none⟩) 1 1, .slice (some ⟨W0.heap.size, 0, none⟩) 1 1, .slice (some ⟨W0.heap.size, 0, none⟩) 1 1]) (t := 25) (fr := (0, 0)) (heap_alloc_new w2 _)) rfl (by omega) (by unfold maxLen; omega) (by omega) ?_
               intro gc cc w3 ho3 hfill3 hfr3 hat3
               have HL3 : Hid (w3.ownsRow 0 25 1 (.slice la M.length lc) (M.length) (List.replicate (M.length) (.slice (some ⟨W0.heap.size, 0, none⟩) 1 1))) := hfill3 _ _ (HL2.out.alloc _)
               have HA3 : Hid (w3.ownsRow 0 25 1 (.slice (some ⟨ga, 0, none⟩) (M.length + 1) ca) (M.length + 1) (List.replicate (M.length + 1) (.slice (some ⟨W0.heap.size, 0, none⟩) 1 1))) := hfill3 _ _ (HA2.out.alloc _)
               have HB3 : Hid (w3.ownsRow 0 25 1 (.slice (some ⟨gb, 0, none⟩) (M.length + 2) cb) (M.length + 2) (List.replicate (M.length + 2) (.slice (some ⟨W0.heap.size, 0, none⟩) 1 1))) := hfill3 _ _ (HB2.out.alloc _)
               have HC3 : Hid (w3.ownsRow 0 25 1 (.slice (some ⟨gc, 0, none⟩) (M.length + 3) cc) (M.length + 3) (List.replicate (M.length + 3) (.slice (some ⟨W0.heap.size, 0, none⟩) 1 1))) := ho3
               have BW3 : Hid (BookAt w3 wb [tv, rv, lv', .slice oa rws.length oc] [ts, rs, ls', rws]) := BF.out _ _ (BB2.out.below ((Below.refl _ _).alloc (Nat.le_refl _) _)) hfr3
               have hs3 : w2.heap.size < w3.heap.size := by have := hfr3.size; simp at this; omega
               have c3w : w3.cell? ⟨wb, 3, none⟩ = some (.slice oa rws.length oc) := by rw [cell_of_row _ _ _ _ _ _ BW3.out.blk]; rfl
               have f3w : w3.frozen? ⟨wb, 3, none⟩ = false := by simp [World.frozen?, BW3.out.blk]
               have hwb3 : wb < w3.heap.size := BW3.out.lt wb (.inl rfl)
               have O3 : Hid (w3.ownsRow 0 39 1 (.slice oa rws.length oc) rws.length rws) := BW3.out.own 3 (by simp) (by simp)
               have nb3 : some wb ≠ (Value.slice oa rws.length oc).ownBlock := fun e => by
                 obtain ⟨cs, fr, hc⟩ := own_ty O3.out e.symm
                 rw [BW3.out.blk] at hc
                 simp at hc
               clear ho3)
            | (at_builtin; refine wpList_append_lies _ rfl _ _ _ rfl 0 39 r0 _ 1 24 Tryd.underlying61 hr0 hx0 hx1 hx2 rfl (by omega) (.slice oa rws.length oc) rws.length rws (by rfl) (O3.out.alloc _) ⟨w3.heap.size, 0, none⟩ 1 1 [.slice la M.length lc] (by rfl) (by rfl) (World.news_of_block (cs := #[.slice la M.length lc]) (t := 39) (fr := (0, 0)) (heap_alloc_new w3 _)) (by simp [Value.oneCell']) (by omega) (by unfold maxLen; omega) (by omega) (by omega) (w3.heap.size + 1) (by simp) ?_
               intro g4 k4 w4 hown4 hgrow4 hat4 hlt4
               have q41 : w4.cell? ⟨wb, 3, none⟩ = some (.slice oa rws.length oc) := (hgrow4.cell_far ⟨wb, 3, none⟩ (by simp; omega) nb3).trans ((cell_alloc w3 _ wb 3 hwb3).trans c3w)
               have q42 : w4.frozen? ⟨wb, 3, none⟩ = false := (hgrow4.frozen_far ⟨wb, 3, none⟩ (by simp; omega) nb3).trans ((frozen_alloc w3 _ wb 3 hwb3).trans f3w)
               have PB4 : Hid (BookAt (w4.setCell ⟨wb, 3, none⟩ (.slice (some ⟨g4, 0, none⟩) (rws.length + 1) k4)) wb [tv, rv, lv', (.slice (some ⟨g4, 0, none⟩) (rws.length + 1) k4)] [ts, rs, ls', (rws ++ [.slice la M.length lc])] ∧ Fr (wb :: (Value.slice oa rws.length oc).ownBlock.toList) w3 (w4.setCell ⟨wb, 3, none⟩ (.slice (some ⟨g4, 0, none⟩) (rws.length + 1) k4))) := BW3.out.push (k := 3) (by simp) (by simp) hgrow4 hown4 hat4
               have HS4 : (w4.setCell ⟨wb, 3, none⟩ (.slice (some ⟨g4, 0, none⟩) (rws.length + 1) k4)).heap.size = w4.heap.size := setCell_size _ _ _
               have O4 : Hid ((w4.setCell ⟨wb, 3, none⟩ (.slice (some ⟨g4, 0, none⟩) (rws.length + 1) k4)).ownsRow 0 39 1 (.slice (some ⟨g4, 0, none⟩) (rws.length + 1) k4) (rws.length + 1) (rws ++ [.slice la M.length lc])) := by
                 have h := PB4.out.1.own 3 (by simp) (by simp)
                 simpa [Hid, fty] using h
               have nb4 : some wb ≠ (Value.slice (some ⟨g4, 0, none⟩) (rws.length + 1) k4).ownBlock := fun e => by
                 obtain ⟨cs, fr, hc⟩ := own_ty O4.out e.symm
                 rw [PB4.out.1.blk] at hc
                 simp at hc
               have hwb4 : wb < w4.heap.size := by have := PB4.out.1.lt wb (.inl rfl); rw [HS4] at this; exact this
               have HC4 : Hid ((w4.setCell ⟨wb, 3, none⟩ (.slice (some ⟨g4, 0, none⟩) (rws.length + 1) k4)).cell? ⟨wb, 3, none⟩ = some (.slice (some ⟨g4, 0, none⟩) (rws.length + 1) k4)) := by unfold Hid; rw [cell_of_row _ _ _ _ _ _ PB4.out.1.blk]; rfl
               have HF4 : Hid ((w4.setCell ⟨wb, 3, none⟩ (.slice (some ⟨g4, 0, none⟩) (rws.length + 1) k4)).frozen? ⟨wb, 3, none⟩ = false) := by unfold Hid; simp [World.frozen?, PB4.out.1.blk])
            | (at_builtin; refine wpList_append_lies _ rfl _ _ _ rfl 0 39 r0 _ 1 24 Tryd.underlying61 hr0 hx0 hx1 hx2 rfl (by omega) (.slice (some ⟨g4, 0, none⟩) (rws.length + 1) k4) (rws.length + 1) (rws ++ [.slice la M.length lc]) (by rfl) (O4.out.alloc _) ⟨w4.heap.size, 0, none⟩ 1 1 [.slice (some ⟨ga, 0, none⟩) (M.length + 1) ca] (by rfl) (by rfl) (World.news_of_block (cs := #[.slice (some ⟨ga, 0, none⟩) (M.length + 1) ca]) (t := 39) (fr := (0, 0)) (new_at HS4 _)) (by simp [Value.oneCell']) (by omega) (by unfold maxLen; omega) (by omega) (by omega) (w4.heap.size + 1) (by simp) ?_
               intro g5 k5 w5 hown5 hgrow5 hat5 hlt5
               have q51 : w5.cell? ⟨wb, 3, none⟩ = some (.slice (some ⟨g4, 0, none⟩) (rws.length + 1) k4) := (hgrow5.cell_far ⟨wb, 3, none⟩ (by simp; omega) nb4).trans ((cell_alloc _ _ wb 3 (by rw [HS4]; exact hwb4)).trans HC4.out)
               have q52 : w5.frozen? ⟨wb, 3, none⟩ = false := (hgrow5.frozen_far ⟨wb, 3, none⟩ (by simp; omega) nb4).trans ((frozen_alloc _ _ wb 3 (by rw [HS4]; exact hwb4)).trans HF4.out)
               have PB5 : Hid (BookAt (w5.setCell ⟨wb, 3, none⟩ (.slice (some ⟨g5, 0, none⟩) (rws.length + 2) k5)) wb [tv, rv, lv', (.slice (some ⟨g5, 0, none⟩) (rws.length + 2) k5)] [ts, rs, ls', ((rws ++ [.slice la M.length lc]) ++ [.slice (some ⟨ga, 0, none⟩) (M.length + 1) ca])] ∧ Fr (wb :: (Value.slice (some ⟨g4, 0, none⟩) (rws.length + 1) k4).ownBlock.toList) (w4.setCell ⟨wb, 3, none⟩ (.slice (some ⟨g4, 0, none⟩) (rws.length + 1) k4)) (w5.setCell ⟨wb, 3, none⟩ (.slice (some ⟨g5, 0, none⟩) (rws.length + 2) k5))) := by
                 have h := PB4.out.1.push (k := 3) (x := .slice (some ⟨ga, 0, none⟩) (M.length + 1) ca) (gg := g5) (cp := k5) (w3 := w5) (by simp) (by simp) hgrow5 (by simpa [fty] using hown5) (hat5.imp_right (fun e => e.trans (by rw [HS4])))
                 simpa [Hid] using h
               have HS5 : (w5.setCell ⟨wb, 3, none⟩ (.slice (some ⟨g5, 0, none⟩) (rws.length + 2) k5)).heap.size = w5.heap.size := setCell_size _ _ _
               have O5 : Hid ((w5.setCell ⟨wb, 3, none⟩ (.slice (some ⟨g5, 0, none⟩) (rws.length + 2) k5)).ownsRow 0 39 1 (.slice (some ⟨g5, 0, none⟩) (rws.length + 2) k5) (rws.length + 2) ((rws ++ [.slice la M.length lc]) ++ [.slice (some ⟨ga, 0, none⟩) (M.length + 1) ca])) := by
                 have h := PB5.out.1.own 3 (by simp) (by simp)
                 simpa [Hid, fty] using h
               have nb5 : some wb ≠ (Value.slice (some ⟨g5, 0, none⟩) (rws.length + 2) k5).ownBlock := fun e => by
                 obtain ⟨cs, fr, hc⟩ := own_ty O5.out e.symm
                 rw [PB5.out.1.blk] at hc
                 simp at hc
               have hwb5 : wb < w5.heap.size := by have := PB5.out.1.lt wb (.inl rfl); rw [HS5] at this; exact this
               have HC5 : Hid ((w5.setCell ⟨wb, 3, none⟩ (.slice (some ⟨g5, 0, none⟩) (rws.length + 2) k5)).cell? ⟨wb, 3, none⟩ = some (.slice (some ⟨g5, 0, none⟩) (rws.length + 2) k5)) := by unfold Hid; rw [cell_of_row _ _ _ _ _ _ PB5.out.1.blk]; rfl
               have HF5 : Hid ((w5.setCell ⟨wb, 3, none⟩ (.slice (some ⟨g5, 0, none⟩) (rws.length + 2) k5)).frozen? ⟨wb, 3, none⟩ = false) := by unfold Hid; simp [World.frozen?, PB5.out.1.blk])
            | (at_builtin; refine wpList_append_lies _ rfl _ _ _ rfl 0 39 r0 _ 1 24 Tryd.underlying61 hr0 hx0 hx1 hx2 rfl (by omega) (.slice (some ⟨g5, 0, none⟩) (rws.length + 2) k5) (rws.length + 2) ((rws ++ [.slice la M.length lc]) ++ [.slice (some ⟨ga, 0, none⟩) (M.length + 1) ca]) (by rfl) (O5.out.alloc _) ⟨w5.heap.size, 0, none⟩ 1 1 [.slice (some ⟨gb, 0, none⟩) (M.length + 2) cb] (by rfl) (by rfl) (World.news_of_block (cs := #[.slice (some ⟨gb, 0, none⟩) (M.length + 2) cb]) (t := 39) (fr := (0, 0)) (new_at HS5 _)) (by simp [Value.oneCell']) (by omega) (by unfold maxLen; omega) (by omega) (by omega) (w5.heap.size + 1) (by simp) ?_
               intro g6 k6 w6 hown6 hgrow6 hat6 hlt6
               have q61 : w6.cell? ⟨wb, 3, none⟩ = some (.slice (some ⟨g5, 0, none⟩) (rws.length + 2) k5) := (hgrow6.cell_far ⟨wb, 3, none⟩ (by simp; omega) nb5).trans ((cell_alloc _ _ wb 3 (by rw [HS5]; exact hwb5)).trans HC5.out)
               have q62 : w6.frozen? ⟨wb, 3, none⟩ = false := (hgrow6.frozen_far ⟨wb, 3, none⟩ (by simp; omega) nb5).trans ((frozen_alloc _ _ wb 3 (by rw [HS5]; exact hwb5)).trans HF5.out)
               have PB6 : Hid (BookAt (w6.setCell ⟨wb, 3, none⟩ (.slice (some ⟨g6, 0, none⟩) (rws.length + 3) k6)) wb [tv, rv, lv', (.slice (some ⟨g6, 0, none⟩) (rws.length + 3) k6)] [ts, rs, ls', (((rws ++ [.slice la M.length lc]) ++ [.slice (some ⟨ga, 0, none⟩) (M.length + 1) ca]) ++ [.slice (some ⟨gb, 0, none⟩) (M.length + 2) cb])] ∧ Fr (wb :: (Value.slice (some ⟨g5, 0, none⟩) (rws.length + 2) k5).ownBlock.toList) (w5.setCell ⟨wb, 3, none⟩ (.slice (some ⟨g5, 0, none⟩) (rws.length + 2) k5)) (w6.setCell ⟨wb, 3, none⟩ (.slice (some ⟨g6, 0, none⟩) (rws.length + 3) k6))) := by
                 have h := PB5.out.1.push (k := 3) (x := .slice (some ⟨gb, 0, none⟩) (M.length + 2) cb) (gg := g6) (cp := k6) (w3 := w6) (by simp) (by simp) hgrow6 (by simpa [fty] using hown6) (hat6.imp_right (fun e => e.trans (by rw [HS5])))
                 simpa [Hid] using h
               have HS6 : (w6.setCell ⟨wb, 3, none⟩ (.slice (some ⟨g6, 0, none⟩) (rws.length + 3) k6)).heap.size = w6.heap.size := setCell_size _ _ _
               have O6 : Hid ((w6.setCell ⟨wb, 3, none⟩ (.slice (some ⟨g6, 0, none⟩) (rws.length + 3) k6)).ownsRow 0 39 1 (.slice (some ⟨g6, 0, none⟩) (rws.length + 3) k6) (rws.length + 3) (((rws ++ [.slice la M.length lc]) ++ [.slice (some ⟨ga, 0, none⟩) (M.length + 1) ca]) ++ [.slice (some ⟨gb, 0, none⟩) (M.length + 2) cb])) := by
                 have h := PB6.out.1.own 3 (by simp) (by simp)
                 simpa [Hid, fty] using h
               have nb6 : some wb ≠ (Value.slice (some ⟨g6, 0, none⟩) (rws.length + 3) k6).ownBlock := fun e => by
                 obtain ⟨cs, fr, hc⟩ := own_ty O6.out e.symm
                 rw [PB6.out.1.blk] at hc
                 simp at hc
               have hwb6 : wb < w6.heap.size := by have := PB6.out.1.lt wb (.inl rfl); rw [HS6] at this; exact this
               have HC6 : Hid ((w6.setCell ⟨wb, 3, none⟩ (.slice (some ⟨g6, 0, none⟩) (rws.length + 3) k6)).cell? ⟨wb, 3, none⟩ = some (.slice (some ⟨g6, 0, none⟩) (rws.length + 3) k6)) := by unfold Hid; rw [cell_of_row _ _ _ _ _ _ PB6.out.1.blk]; rfl
               have HF6 : Hid ((w6.setCell ⟨wb, 3, none⟩ (.slice (some ⟨g6, 0, none⟩) (rws.length + 3) k6)).frozen? ⟨wb, 3, none⟩ = false) := by unfold Hid; simp [World.frozen?, PB6.out.1.blk])
            | (at_builtin; refine wpList_append_lies _ rfl _ _ _ rfl 0 39 r0 _ 1 24 Tryd.underlying61 hr0 hx0 hx1 hx2 rfl (by omega) (.slice (some ⟨g6, 0, none⟩) (rws.length + 3) k6) (rws.length + 3) (((rws ++ [.slice la M.length lc]) ++ [.slice (some ⟨ga, 0, none⟩) (M.length + 1) ca]) ++ [.slice (some ⟨gb, 0, none⟩) (M.length + 2) cb]) (by rfl) (O6.out.alloc _) ⟨w6.heap.size, 0, none⟩ 1 1 [.slice (some ⟨gc, 0, none⟩) (M.length + 3) cc] (by rfl) (by rfl) (World.news_of_block (cs := #[.slice (some ⟨gc, 0, none⟩) (M.length + 3) cc]) (t := 39) (fr := (0, 0)) (new_at HS6 _)) (by simp [Value.oneCell']) (by omega) (by unfold maxLen; omega) (by omega) (by omega) (w6.heap.size + 1) (by simp) ?_
               intro g7 k7 w7 hown7 hgrow7 hat7 hlt7
               have q71 : w7.cell? ⟨wb, 3, none⟩ = some (.slice (some ⟨g6, 0, none⟩) (rws.length + 3) k6) := (hgrow7.cell_far ⟨wb, 3, none⟩ (by simp; omega) nb6).trans ((cell_alloc _ _ wb 3 (by rw [HS6]; exact hwb6)).trans HC6.out)
               have q72 : w7.frozen? ⟨wb, 3, none⟩ = false := (hgrow7.frozen_far ⟨wb, 3, none⟩ (by simp; omega) nb6).trans ((frozen_alloc _ _ wb 3 (by rw [HS6]; exact hwb6)).trans HF6.out)
               have PB7 : Hid (BookAt (w7.setCell ⟨wb, 3, none⟩ (.slice (some ⟨g7, 0, none⟩) (rws.length + 4) k7)) wb [tv, rv, lv', (.slice (some ⟨g7, 0, none⟩) (rws.length + 4) k7)] [ts, rs, ls', ((((rws ++ [.slice la M.length lc]) ++ [.slice (some ⟨ga, 0, none⟩) (M.length + 1) ca]) ++ [.slice (some ⟨gb, 0, none⟩) (M.length + 2) cb]) ++ [.slice (some ⟨gc, 0, none⟩) (M.length + 3) cc])] ∧ Fr (wb :: (Value.slice (some ⟨g6, 0, none⟩) (rws.length + 3) k6).ownBlock.toList) (w6.setCell ⟨wb, 3, none⟩ (.slice (some ⟨g6, 0, none⟩) (rws.length + 3) k6)) (w7.setCell ⟨wb, 3, none⟩ (.slice (some ⟨g7, 0, none⟩) (rws.length + 4) k7))) := by
                 have h := PB6.out.1.push (k := 3) (x := .slice (some ⟨gc, 0, none⟩) (M.length + 3) cc) (gg := g7) (cp := k7) (w3 := w7) (by simp) (by simp) hgrow7 (by simpa [fty] using hown7) (hat7.imp_right (fun e => e.trans (by rw [HS6])))
                 simpa [Hid] using h))
          have hs4 : w3.heap.size + 1 ≤ w4.heap.size := by have := hgrow4.size; simpa using this
          have hs5 : w4.heap.size + 1 ≤ w5.heap.size := by have := hgrow5.size; rw [World.size_alloc, HS4] at this; exact this
          have hs6 : w5.heap.size + 1 ≤ w6.heap.size := by have := hgrow6.size; rw [World.size_alloc, HS5] at this; exact this
          have hs7 : w6.heap.size + 1 ≤ w7.heap.size := by have := hgrow7.size; rw [World.size_alloc, HS6] at this; exact this
          have good : ∀ b, b < w3.heap.size → b ≠ wb → (Value.slice oa rws.length oc).ownBlock ≠ some b → g7 ≠ b ∧ (w7.setCell ⟨wb, 3, none⟩ (.slice (some ⟨g7, 0, none⟩) (rws.length + 4) k7)).heap[b]? = w3.heap[b]? := fun b h1 h2 h3 => by
            have x4 : g4 ≠ b := by
              rintro rfl
              rcases hat4 with x | x
              · exact h3 x
              · omega
            have x5 : g5 ≠ b := by
              rintro rfl
              rcases hat5 with x | x
              · simp only [Value.ownBlock, Option.some.injEq] at x; exact x4 x
              · omega
            have x6 : g6 ≠ b := by
              rintro rfl
              rcases hat6 with x | x
              · simp only [Value.ownBlock, Option.some.injEq] at x; exact x5 x
              · omega
            have x7 : g7 ≠ b := by
              rintro rfl
              rcases hat7 with x | x
              · simp only [Value.ownBlock, Option.some.injEq] at x; exact x6 x
              · omega
            have e4 := PB4.out.2.block b h1 (by simp only [List.mem_cons, Option.mem_toList, not_or]; exact ⟨h2, h3⟩)
            have e5 := PB5.out.2.block b (by rw [HS4]; omega) (by simp only [List.mem_cons, Option.mem_toList, not_or]; exact ⟨h2, fun x => by simp only [Value.ownBlock, Option.some.injEq] at x; exact x4 x⟩)
            have e6 := PB6.out.2.block b (by rw [HS5]; omega) (by simp only [List.mem_cons, Option.mem_toList, not_or]; exact ⟨h2, fun x => by simp only [Value.ownBlock, Option.some.injEq] at x; exact x5 x⟩)
            have e7 := PB7.out.2.block b (by rw [HS6]; omega) (by simp only [List.mem_cons, Option.mem_toList, not_or]; exact ⟨h2, fun x => by simp only [Value.ownBlock, Option.some.injEq] at x; exact x6 x⟩)
            exact ⟨x7, e7.trans (e6.trans (e5.trans e4))⟩
          -- from the first half's end to the three appends: all but the list's own block
          have FM : Fr (Value.slice la M.length lc).ownBlock.toList (W0.alloc (.cells #[.int .i64 mv, .string ⟨#[]⟩] 30)) w3 := by
            have a1 := HF1.out.alloc (.cells #[.slice (some ⟨W0.heap.size, 0, none⟩) 1 1] 25)
            have a2 := (a1.trans hfr1 (fun i hi => .inl hi)).alloc (.cells #[.slice (some ⟨W0.heap.size, 0, none⟩) 1 1, .slice (some ⟨W0.heap.size, 0, none⟩) 1 1] 25)
            have a3 := (a2.trans hfr2 (fun i hi => .inl hi)).alloc (.cells #[.slice (some ⟨W0.heap.size, 0, none⟩) 1 1, .slice (some ⟨W0.heap.size, 0, none⟩) 1 1, .slice (some ⟨W0.heap.size, 0, none⟩) 1 1] 25)
            exact a3.trans hfr3 (fun i hi => .inl hi)
          have FW : Fr (Value.slice la M.length lc).ownBlock.toList W0 w3 := ((Fr.refl (Value.slice la M.length lc).ownBlock.toList W0).alloc _).trans FM (fun i hi => .inl hi)
          have hlaW : ∀ g, (Value.slice la M.length lc).ownBlock = some g → g < W0.heap.size := fun g hg => (HOWN0.out.lt g hg).2
          have hlaw : ∀ g, (Value.slice la M.length lc).ownBlock = some g → g < w.heap.size := fun g hg => (HM.out.own.lt g hg).2
          have MB : w3.heap[W0.heap.size]? = some (.cells #[.int .i64 mv, .string ⟨#[]⟩] 30 (0, 0)) :=
            (FM.block _ (by simp) (fun hm => by have := hlaW W0.heap.size (by simpa using hm); omega)).trans (heap_alloc_new W0 _)
          have hwb0 : wb < W0.heap.size := hbelow0.out.lt wb (.inl rfl)
          have nw : ∀ b, W0.heap.size ≤ b → b < w3.heap.size → b < w3.heap.size ∧ b ≠ wb ∧ ∀ u ∈ [tv, rv, lv', (Value.slice oa rws.length oc)], u.ownBlock ≠ some b := fun b h1 h2 =>
            ⟨h2, fun e => by omega, fun u hu e => by have := hbelow0.out.lt b (.inr ⟨u, hu, e⟩); omega⟩
          have gla : ∀ b, (Value.slice la M.length lc).ownBlock = some b → b < w3.heap.size ∧ b ≠ wb ∧ ∀ u ∈ [tv, rv, lv', (Value.slice oa rws.length oc)], u.ownBlock ≠ some b := fun b hb => by
            have h1 := hlaW b hb
            refine ⟨by omega, fun e => NL.out b (.inl e) (by rw [hb]; simp), fun u hu e => NL.out b (.inr ⟨u, hu, e⟩) (by rw [hb]; simp)⟩
          have hat1' : (Value.slice la M.length lc).ownBlock = some ga ∨ W0.heap.size ≤ ga := hat1.imp_right (fun h => by simp at h; omega)
          have hat2' : (Value.slice la M.length lc).ownBlock = some gb ∨ W0.heap.size ≤ gb := hat2.imp_right (fun h => by simp at h; omega)
          have hat3' : (Value.slice la M.length lc).ownBlock = some gc ∨ W0.heap.size ≤ gc := hat3.imp_right (fun h => by simp at h; omega)
          have lga : ga < w3.heap.size := (HA3.out.lt ga rfl).2
          have lgb : gb < w3.heap.size := (HB3.out.lt gb rfl).2
          have lgc : gc < w3.heap.size := (HC3.out.lt gc rfl).2
          have G : ∀ b, (P' b ∨ (Value.slice la M.length lc).ownBlock = some b ∨ b = ga ∨ b = gb ∨ b = gc ∨ b = W0.heap.size) → b < w3.heap.size ∧ b ≠ wb ∧ ∀ u ∈ [tv, rv, lv', (Value.slice oa rws.length oc)], u.ownBlock ≠ some b := fun b hb => by
            rcases hb with h | h | rfl | rfl | rfl | rfl
            · have := HAP'.out.lt b h
              exact ⟨by omega, HAP'.out.wb b h, HAP'.out.own b h⟩
            · exact gla b h
            · rcases hat1' with h | h
              · exact gla _ h
              · exact nw _ h lga
            · rcases hat2' with h | h
              · exact gla _ h
              · exact nw _ h lgb
            · rcases hat3' with h | h
              · exact gla _ h
              · exact nw _ h lgc
            · exact nw _ (Nat.le_refl _) (by omega)
          have G7 : ∀ b, (P' b ∨ (Value.slice la M.length lc).ownBlock = some b ∨ b = ga ∨ b = gb ∨ b = gc ∨ b = W0.heap.size) → (w7.setCell ⟨wb, 3, none⟩ (.slice (some ⟨g7, 0, none⟩) (rws.length + 4) k7)).heap[b]? = w3.heap[b]? := fun b hb => (good b (G b hb).1 (G b hb).2.1 ((G b hb).2.2 _ (by simp))).2
          have nla : ∀ b, P' b → b ∉ (Value.slice la M.length lc).ownBlock.toList := fun b hb hm => by
            have e : (Value.slice la M.length lc).ownBlock = some b := by simpa using hm
            rcases HPB.out b hb with h | h | ⟨j, hj, _, h⟩
            · exact HVP.out b e h
            · have := hlaw b e; omega
            · obtain ⟨cs, fr, hc⟩ := own_ty HM.out.own e
              have h2 := HMI.out.blk M[j] (List.getElem_mem hj)
              unfold RowBlk at h2
              rw [h, hc] at h2
              simp at h2
          have old : ∀ b, P' b → (w7.setCell ⟨wb, 3, none⟩ (.slice (some ⟨g7, 0, none⟩) (rws.length + 4) k7)).heap[b]? = W0.heap[b]? := fun b hb => (G7 b (.inl hb)).trans (FW.block b (HAP'.out.lt b hb) (nla b hb))
          have oldw : ∀ b, P b → W0.heap[b]? = w.heap[b]? := fun b hb => HFR.out.block b (HAP.out.lt b hb) (fun hm => by
            simp only [List.mem_cons, List.mem_append, Option.mem_toList, List.mem_map] at hm
            rcases hm with h | h | ⟨p, hp, h⟩
            · exact HAP.out.wb b hb h
            · exact HAP.out.own b hb lv (by simp) h
            · exact HMP.out p hp (h ▸ hb))
          have RM : ∀ j, j < 4 → RowIn (w7.setCell ⟨wb, 3, none⟩ (.slice (some ⟨g7, 0, none⟩) (rws.length + 4) k7)) W0.heap.size (marks (rws.length + j) 1) := fun j hj => by
            rw [marks_same _ j _ hr4 hj]
            refine RowIn.of_block ((G7 _ (.inr (.inr (.inr (.inr (.inr rfl)))))).trans MB) ?_
            unfold marks
            rw [HMK.out]; rfl
          have PM : P' W0.heap.size ∨ (Value.slice la M.length lc).ownBlock = some W0.heap.size ∨ W0.heap.size = ga ∨ W0.heap.size = gb ∨ W0.heap.size = gc ∨ W0.heap.size = W0.heap.size := .inr (.inr (.inr (.inr (.inr rfl))))
          have CLOSE : Hid (KeepPost w (w7.setCell ⟨wb, 3, none⟩ (.slice (some ⟨g7, 0, none⟩) (rws.length + 4) k7)) wb tv rv lv (Value.slice oa rws.length oc) ts rs ls rws P M (Value.slice la M.length lc)) := by
            refine ⟨_, _, _, _, fun b => P' b ∨ (Value.slice la M.length lc).ownBlock = some b ∨ b = ga ∨ b = gb ∨ b = gc ∨ b = W0.heap.size, HLEN.out, ?_, PB7.out.1, ?_, ?_, ?_, fun b h => .inl (HPP.out b h), ?_, ?_, ?_, ?_⟩
            · simp
            · refine ⟨fun b h => by rw [setCell_size]; have := (G b h).1; omega, fun b h => (G b h).2.1, fun b h u hu => ?_⟩
              simp only [List.mem_cons, List.not_mem_nil, or_false] at hu
              have g := (G b h).2.2
              rcases hu with rfl | rfl | rfl | rfl
              · exact g _ (by simp)
              · exact g _ (by simp)
              · exact g _ (by simp)
              · intro e
                simp only [Value.ownBlock, Option.some.injEq] at e
                exact (good b (G b h).1 (G b h).2.1 (g _ (by simp))).1 e
            · intro i h
              exact (KL'.out i h).keep (fun b hb => .inl hb) (fun b hb => old b hb)
            · intro i h
              rcases four_at _ _ _ _ _ i h with ⟨hi, e⟩ | ⟨hi, e⟩ | ⟨hi, e⟩ | ⟨hi, e⟩ | ⟨hi, e⟩
              · rw [e]
                exact (KR.out i hi).keep (fun b hb => .inl (HPP.out b hb)) (fun b hb => (old b (HPP.out b hb)).trans (oldw b hb))
              · rw [e, hi]
                exact keptRows_of_own (own_keep2 HL3.out (fun g hg => G7 g (.inr (.inl hg)))) (by omega) (fun g hg => .inr (.inl hg)) PM (RM 0 (by omega))
              · rw [e, hi]
                exact keptRows_of_own (own_keep2 HA3.out (fun g hg => by simp only [Value.ownBlock, Option.some.injEq] at hg; subst hg; exact G7 ga (.inr (.inr (.inl rfl))))) (by omega) (fun g hg => by simp only [Value.ownBlock, Option.some.injEq] at hg; exact .inr (.inr (.inl hg.symm))) PM (RM 1 (by omega))
              · rw [e, hi]
                exact keptRows_of_own (own_keep2 HB3.out (fun g hg => by simp only [Value.ownBlock, Option.some.injEq] at hg; subst hg; exact G7 gb (.inr (.inr (.inr (.inl rfl)))))) (by omega) (fun g hg => by simp only [Value.ownBlock, Option.some.injEq] at hg; exact .inr (.inr (.inr (.inl hg.symm)))) PM (RM 2 (by omega))
              · rw [e, hi]
                exact keptRows_of_own (own_keep2 HC3.out (fun g hg => by simp only [Value.ownBlock, Option.some.injEq] at hg; subst hg; exact G7 gc (.inr (.inr (.inr (.inr (.inl rfl))))))) (by omega) (fun g hg => by simp only [Value.ownBlock, Option.some.injEq] at hg; exact .inr (.inr (.inr (.inr (.inl hg.symm))))) PM (RM 3 (by omega))
            · have sF := HFR.out.size
              intro b hb
              rcases hb with h | h | rfl | rfl | rfl | rfl
              · rcases HPB.out b h with x | x | ⟨j, hj, _, x⟩
                · exact .inl x
                · exact .inr (.inl x)
                · exact .inr (.inr (.inl ⟨M[j], List.getElem_mem hj, x⟩))
              · exact .inr (.inr (.inr h))
              · rcases hat1' with h | h
                · exact .inr (.inr (.inr h))
                · exact .inr (.inl (by omega))
              · rcases hat2' with h | h
                · exact .inr (.inr (.inr h))
                · exact .inr (.inl (by omega))
              · rcases hat3' with h | h
                · exact .inr (.inr (.inr h))
                · exact .inr (.inl (by omega))
              · exact .inr (.inl sF)
            · have sF := HFR.out.size
              have low : ∀ g, (Value.slice oa rws.length oc).ownBlock = some g → g ∈ (wb :: (lv.ownBlock.toList ++ ((Value.slice oa rws.length oc).ownBlock.toList ++ (M.map Prod.fst ++ (Value.slice la M.length lc).ownBlock.toList)))) ∨ w.heap.size ≤ g := fun g hg => .inl (by rw [hg]; simp)
              have l4 : g4 ∈ (wb :: (lv.ownBlock.toList ++ ((Value.slice oa rws.length oc).ownBlock.toList ++ (M.map Prod.fst ++ (Value.slice la M.length lc).ownBlock.toList)))) ∨ w.heap.size ≤ g4 := by
                rcases hat4 with x | x
                · exact low g4 x
                · right; omega
              have l5 : g5 ∈ (wb :: (lv.ownBlock.toList ++ ((Value.slice oa rws.length oc).ownBlock.toList ++ (M.map Prod.fst ++ (Value.slice la M.length lc).ownBlock.toList)))) ∨ w.heap.size ≤ g5 := by
                rcases hat5 with x | x
                · simp only [Value.ownBlock, Option.some.injEq] at x; rw [← x]; exact l4
                · right; omega
              have l6 : g6 ∈ (wb :: (lv.ownBlock.toList ++ ((Value.slice oa rws.length oc).ownBlock.toList ++ (M.map Prod.fst ++ (Value.slice la M.length lc).ownBlock.toList)))) ∨ w.heap.size ≤ g6 := by
                rcases hat6 with x | x
                · simp only [Value.ownBlock, Option.some.injEq] at x; rw [← x]; exact l5
                · right; omega
              have f0 := HFR.out.mono (T := (wb :: (lv.ownBlock.toList ++ ((Value.slice oa rws.length oc).ownBlock.toList ++ (M.map Prod.fst ++ (Value.slice la M.length lc).ownBlock.toList))))) (fun i hi => by
                rcases List.mem_cons.1 hi with rfl | hi
                · exact List.mem_cons_self
                · refine List.mem_cons_of_mem _ ?_
                  rcases List.mem_append.1 hi with hi | hi
                  · exact List.mem_append_left _ hi
                  · exact List.mem_append_right _ (List.mem_append_right _ (List.mem_append_left _ hi)))
              have f3 := f0.trans FW (fun i hi => .inl (List.mem_cons_of_mem _ (List.mem_append_right _ (List.mem_append_right _ (List.mem_append_right _ hi)))))
              have f4 := f3.trans PB4.out.2 (fun i hi => by
                rcases List.mem_cons.1 hi with rfl | hi
                · exact .inl (List.mem_cons_self)
                · exact low i (by simpa using hi))
              have f5 := f4.trans PB5.out.2 (fun i hi => by
                rcases List.mem_cons.1 hi with rfl | hi
                · exact .inl (List.mem_cons_self)
                · have : i = g4 := by simpa [Value.ownBlock] using hi
                  rw [this]; exact l4)
              have f6 := f5.trans PB6.out.2 (fun i hi => by
                rcases List.mem_cons.1 hi with rfl | hi
                · exact .inl (List.mem_cons_self)
                · have : i = g5 := by simpa [Value.ownBlock] using hi
                  rw [this]; exact l5)
              exact f6.trans PB7.out.2 (fun i hi => by
                rcases List.mem_cons.1 hi with rfl | hi
                · exact .inl (List.mem_cons_self)
                · have : i = g6 := by simpa [Value.ownBlock] using hi
                  rw [this]; exact l6)
            · intro g hg
              rcases HLO.out with h | ⟨g', h, h2⟩
              · exact .inl (h ▸ hg)
              · rw [h] at hg; simp only [Option.some.injEq] at hg; exact .inr (by omega)
            · intro g hg
              have sF := HFR.out.size
              simp only [Value.ownBlock, Option.some.injEq] at hg
              subst hg
              have l4 : (Value.slice oa rws.length oc).ownBlock = some g4 ∨ w.heap.size ≤ g4 := by
                rcases hat4 with x | x
                · exact .inl x
                · right; omega
              have l5 : (Value.slice oa rws.length oc).ownBlock = some g5 ∨ w.heap.size ≤ g5 := by
                rcases hat5 with x | x
                · simp only [Value.ownBlock, Option.some.injEq] at x; rw [← x]; exact l4
                · right; omega
              have l6 : (Value.slice oa rws.length oc).ownBlock = some g6 ∨ w.heap.size ≤ g6 := by
                rcases hat6 with x | x
                · simp only [Value.ownBlock, Option.some.injEq] at x; rw [← x]; exact l5
                · right; omega
              rcases hat7 with x | x
              · simp only [Value.ownBlock, Option.some.injEq] at x; rw [← x]; exact l6
              · right; omega
          clear good old oldw nw gla G G7 nla RM PM
          go_wp2
          go_end0
          exact ⟨rfl, CLOSE.out⟩

end Go.Proofs.YtcconhgbefhdeaaDoor
