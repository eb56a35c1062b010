import Derived.Test.YtcconhgbefhdeaaDoorScansP14
import Derived.Test.YtcconhgbefhdeaaDoorScansP08
namespace Go.Proofs.YtcconhgbefhdeaaDoor
open Go.RowKit
attribute [local go_sem ↓] Go.wp_at_zero Go.wp_at_succ

theorem play_start (w0 : World) : WorldOK (w0.alloc (.cells #[.slice none 0 0, .slice none 0 0, .slice none 0 0, .slice none 0 0] 63)) w0.heap.size (fun b => if b = w0.heap.size then 2 else 0) [] 0 := by
  refine ⟨if_pos rfl, ⟨.slice none 0 0, .slice none 0 0, .slice none 0 0, .slice none 0 0, [], [], ⟨rfl, rfl, heap_alloc_new w0 _, fun k hf hx => ?_⟩, ?_, by simp, by simp, rfl, rfl, by simp, by simp⟩, by simp, by simp⟩
  · have h2 : k = 0 ∨ k = 1 ∨ k = 2 ∨ k = 3 := by simp at hf; omega
    rcases h2 with rfl | rfl | rfl | rfl <;> exact World.ownsRow_nil _ _ _ _
  · intro v hv g hg
    simp at hv
    subst hv
    cases hg

theorem play_first (w0 w W : World) (hE : ErrType w0) (hw : FrS (fun _ => False) w0 w) (h : WorldOK w w0.heap.size (fun b => if b = w0.heap.size then 2 else 0) [] 0) (hW : FrS (fun _ => False) w W) {sa : Option Addr} (hk : KindsA W sa [1, 3]) :
    Calls Tryd.prog 19 #[.pointer (some ⟨w0.heap.size, 0, none⟩), .slice sa 2 2] W fun e w' => e = .returned (.bool true) ∧ PlayAt w0 w0.heap.size 1 w' := by
  have hf : (schemaFault [1, 3]).1 = 0 := by decide
  have z := hw.size
  have hE' : ErrType W := (hE.keep (hw.block 0 hE.lt (fun h => h))).keep (hW.block 0 (by have := hE.lt; omega) (fun h => h))
  refine (made_good w0.heap.size _ [] 0 [1, 3] sa 2 W hE' (h.same (Nat.le_refl 0) hW) (by omega) hk (by simp) hf).mono ?_
  rintro e w' ⟨rfl, col', bt, br, h1, h2, h3⟩
  rw [if_pos hf] at h1
  refine ⟨rfl, PlayAt.next (fun b hb => ?_) (hw.trans hW (fun _ h => h.elim)) h1 (by simp) h2 h3⟩
  show (if b < w.heap.size then (if b = w0.heap.size then 2 else 0) else 0) = 0
  rw [if_pos (by omega), if_neg (by omega)]

theorem play_apps {w0 w : World} {wb s : Nat} (h : PlayAt w0 wb s w) (hE : ErrType w0) : ∃ N tg tc rg rc, 0 < N ∧ w.cell? ⟨wb, 0, none⟩ = some (.slice (some ⟨tg, 0, none⟩) N tc) ∧ w.cell? ⟨wb, 1, none⟩ = some (.slice (some ⟨rg, 0, none⟩) N rc) ∧ ∃ bt br, w.cell? ⟨tg, 0, none⟩ = some (.pointer (some ⟨bt, 0, none⟩)) ∧ w.cell? ⟨rg, 0, none⟩ = some (.pointer (some ⟨br, 0, none⟩)) ∧
    ∀ r g cap W, FrS (fun _ => False) w W → RowIn W g r → w.heap.size ≤ g → RowRg r → r.length ≤ 9000000 → Calls Tryd.prog 20 #[.pointer (some ⟨bt, 0, none⟩), .pointer (some ⟨br, 0, none⟩), .slice (some ⟨g, 0, none⟩) r.length cap] W fun e w' => e = .returned (.bool true) ∧ PlayAt w0 wb s w' ∧ BookSame wb W w' := by
  obtain ⟨col, Ts, a1, a2, a3, a4⟩ := h
  obtain ⟨tv, rv, lv, ov, ls, rws, hb, _⟩ := a1.ex
  have c0 : w.cell? ⟨wb, 0, none⟩ = some tv := by rw [cell_of_row _ _ _ _ _ _ hb.blk]; rfl
  have c1 : w.cell? ⟨wb, 1, none⟩ = some rv := by rw [cell_of_row _ _ _ _ _ _ hb.blk]; rfl
  obtain ⟨tg, tc, htv, ht⟩ := own_at (hb.own 0 (by simp) (by simp)) (by simpa using a2)
  obtain ⟨rg, rc, hrv, hr⟩ := own_at (hb.own 1 (by simp) (by simp)) (by simpa using a2)
  simp only [List.getElem_cons_zero, List.getElem_cons_succ, List.length_map] at htv ht hrv hr
  subst htv hrv
  refine ⟨Ts.length, tg, tc, rg, rc, a2, c0, c1, Ts[0].bt, Ts[0].br, ?_, ?_, fun r g cap W hF hin hg hrg hl => ?_⟩
  · have := ht 0 a2; rw [this]; simp [Tbl.pt]
  · have := hr 0 a2; rw [this]; simp [Tbl.pr]
  · have a4' : FrS (fun _ => False) w0 W := a4.trans hF (fun _ h => h.elim)
    have z4 := a4.size
    have zF := hF.size
    have hE' : ErrType W := hE.keep (a4'.block 0 hE.lt (fun h => h))
    have hlt := hE.lt
    have hA : AtStep W wb (fun b => if b < w.heap.size then col b else 0) Ts.length s Ts[0].bt Ts[0].br 0 W := ⟨_, Ts, a1.same (Nat.le_refl s) hF, rfl, ⟨a2, rfl, rfl⟩, fun _ _ => rfl, FrS.refl _ _, BookSame.refl _ _⟩
    refine (atStep_app hA hE' (by show (if 0 < w.heap.size then col 0 else 0) = 0; rw [if_pos (by omega)]; exact a3 0 hlt) r (some ⟨g, 0, none⟩) cap (.inr ⟨g, 0, rfl, hin.off⟩) (fun _ a ha => by cases ha; exact if_neg (by show ¬ g < _; omega)) hrg hl).mono ?_
    rintro e w' ⟨rfl, col', Ts', h1, h2, _, h4, h5, h6⟩
    refine ⟨rfl, ⟨col', Ts', h1, by omega, fun b hb => ?_, ?_⟩, h6⟩
    · rw [h4 b (by omega)]
      show (if b < w.heap.size then col b else 0) = 0
      rw [if_pos (by omega)]; exact a3 b hb
    · refine ⟨h5.os.trans a4'.os, h5.tape.trans a4'.tape, h5.output.trans a4'.output, by have := h5.size; have := a4'.size; omega, fun b hb _ => ?_⟩
      refine (h5.block b (by omega) ?_).trans (a4'.block b hb (fun h => h))
      show ¬ (if b < w.heap.size then col b else 0) ≠ 0
      rw [if_pos (by omega)]; simp [a3 b hb]

theorem rg_two (a b : Int) (x y : ByteArray) (a1 : -9223372036854775808 ≤ a) (a2 : a ≤ 9223372036854775807) (b1 : -9223372036854775808 ≤ b) (b2 : b ≤ 9223372036854775807) : RowRg [(a, x), (b, y)] := fun i hi => by
  match i, hi with
  | 0, _ => exact ⟨a1, a2⟩
  | 1, _ => exact ⟨b1, b2⟩

/-- The script as it lies in memory. -/
structure OpsA (w : World) (sa : Option Addr) (ops : List OpM) : Prop where
  mem : ops = [] ∨ ∃ g zo, sa = some ⟨g, zo, none⟩ ∧ ∀ k (h : k < ops.length) j v, ops[k].cells[j]? = some v → w.cell? ⟨g, zo + k * 8 + j, none⟩ = some v
  ok : ∀ o ∈ ops, OpOK w o
  few : ops.length ≤ 8000000

set_option maxRecDepth 100000 in
set_option maxHeartbeats 4000000 in
theorem plays_three (sa : Option Addr) (cap : Nat) (ops : List OpM) (w : World) (hE : ErrType w) (hops : OpsA w sa ops) :
    Calls Tryd.prog 8 #[.slice sa ops.length cap, .int .i64 3] w fun e w' => e = .returned (.bool true) ∧ FrS (fun _ => False) w w' := by
  have HO : Hid (OpsA w sa ops) := hops
  have h0 := play_start w
  have b0 := (Below.refl w.heap.size w).alloc (Nat.le_refl _) (.cells #[.slice none 0 0, .slice none 0 0, .slice none 0 0, .slice none 0 0] 63)
  clear hops
  go_enter Tryd.func8, Tryd.ntmps8
  go_wp2_with fail
  refine (play_first w _ _ hE (FrS.of_below b0) h0 (FrS.of_below ((Below.refl _ _).alloc (Nat.le_refl _) _)) (.inr ⟨_, 0, rfl, fun i hi => ?_⟩)).mono ?_
  · have hnb := new_at (V := w.alloc (.cells #[.slice none 0 0, .slice none 0 0, .slice none 0 0, .slice none 0 0] 63)) (n := w.heap.size + 1) (by simp) (.cells #[.int .i64 1, .int .i64 3] 3)
    rw [cell_of_row _ _ _ _ _ _ hnb]
    match i, hi with
    | 0, _ => rfl
    | 1, _ => rfl
  · rintro e w1 ⟨rfl, hP⟩
    obtain ⟨N, tg, tc, rg, rc, hN, c0, c1, bt, br, d0, d1, hap⟩ := play_apps hP hE
    have hap1 := hap [(5, ⟨#[]⟩), (0, ⟨#[97]⟩)] w1.heap.size 2 (w1.alloc (.cells #[.int .i64 5, .string ⟨#[]⟩, .int .i64 0, .string ⟨#[97]⟩] 30)).drew (FrS.of_below ((Below.refl _ _).alloc (Nat.le_refl _) _).drew) (RowIn.of_block (heap_alloc_new w1 _) rfl) (Nat.le_refl _) (rg_two 5 0 _ _ (by omega) (by omega) (by omega) (by omega)) (by simp)
    have c0' : ∀ o, (w1.alloc o).cell? ⟨w.heap.size, 0, none⟩ = some (.slice (some ⟨tg, 0, none⟩) N tc) := fun o => (cell_alloc w1 o _ _ (World.block_lt_of_cell? w1 ⟨w.heap.size, 0, none⟩ c0)).trans c0
    have c1' : ∀ o, (w1.alloc o).cell? ⟨w.heap.size, 1, none⟩ = some (.slice (some ⟨rg, 0, none⟩) N rc) := fun o => (cell_alloc w1 o _ _ (World.block_lt_of_cell? w1 ⟨w.heap.size, 1, none⟩ c1)).trans c1
    have d0' : ∀ o, (w1.alloc o).cell? ⟨tg, 0, none⟩ = some (.pointer (some ⟨bt, 0, none⟩)) := fun o => (cell_alloc w1 o _ _ (World.block_lt_of_cell? w1 ⟨tg, 0, none⟩ d0)).trans d0
    have d1' : ∀ o, (w1.alloc o).cell? ⟨rg, 0, none⟩ = some (.pointer (some ⟨br, 0, none⟩)) := fun o => (cell_alloc w1 o _ _ (World.block_lt_of_cell? w1 ⟨rg, 0, none⟩ d1)).trans d1
    have hN1 : (0 : Int) < (N : Int) := by omega
    have n0 := World.new_ne _ _ c0
    have n1 := World.new_ne _ _ d0
    have n2 := World.new_ne _ _ d1
    have ltg : tg < w1.heap.size := World.block_lt_of_cell? w1 ⟨tg, 0, none⟩ d0
    have lrg : rg < w1.heap.size := World.block_lt_of_cell? w1 ⟨rg, 0, none⟩ d1
    clear hap
    go_wp2_with fail
    go_region_held3 (fun w' => w'.cell? ⟨w.heap.size, 0, none⟩ = some (.slice (some ⟨tg, 0, none⟩) N tc) ∧ w'.cell? ⟨w.heap.size, 1, none⟩ = some (.slice (some ⟨rg, 0, none⟩) N rc) ∧ w'.cell? ⟨tg, 0, none⟩ = some (.pointer (some ⟨bt, 0, none⟩)) ∧ w'.cell? ⟨rg, 0, none⟩ = some (.pointer (some ⟨br, 0, none⟩))) (go_keep)
      (first
        | (go_at_call 20; refine hap1.mono ?_; rintro e w2 ⟨rfl, hP2, hB2⟩
           have y0 : w2.cell? ⟨w.heap.size, 0, none⟩ = some (.slice (some ⟨tg, 0, none⟩) N tc) := hB2.1 0 _ (by omega) (c0' _)
           have y1 : w2.cell? ⟨w.heap.size, 1, none⟩ = some (.slice (some ⟨rg, 0, none⟩) N rc) := hB2.1 1 _ (by omega) (c1' _)
           have y2 : w2.cell? ⟨tg, 0, none⟩ = some (.pointer (some ⟨bt, 0, none⟩)) := (World.cell?_of_block (a := ⟨tg, 0, none⟩) (hB2.2 0 _ tg (by omega) (c0' _) rfl (by simp; omega))).trans (d0' _)
           have y3 : w2.cell? ⟨rg, 0, none⟩ = some (.pointer (some ⟨br, 0, none⟩)) := (World.cell?_of_block (a := ⟨rg, 0, none⟩) (hB2.2 1 _ rg (by omega) (c1' _) rfl (by simp; omega))).trans (d1' _)))
    clear c0 c1 d0 d1 hap1 c0' c1' d0' d1' hN1 n0 n1 n2 ltg lrg hB2 hP
    obtain ⟨N', tg', tc', rg', rc', _, z0, z1, bt', br', z2, z3, hap⟩ := play_apps hP2 hE
    have e0 := y0.symm.trans z0
    simp only [Option.some.injEq, Value.slice.injEq, Addr.mk.injEq, and_true] at e0
    obtain ⟨rfl, rfl, rfl⟩ := e0
    have e1 := y1.symm.trans z1
    simp only [Option.some.injEq, Value.slice.injEq, Addr.mk.injEq, and_true, true_and] at e1
    obtain ⟨rfl, rfl⟩ := e1
    have e2 := y2.symm.trans z2
    simp only [Option.some.injEq, Value.pointer.injEq, Addr.mk.injEq, and_true] at e2
    subst e2
    have e3 := y3.symm.trans z3
    simp only [Option.some.injEq, Value.pointer.injEq, Addr.mk.injEq, and_true] at e3
    subst e3
    clear z0 z1 z2 z3
    have c0 := y0
    have c1 := y1
    have d0 := y2
    have d1 := y3
    clear y0 y1 y2 y3
    have hap1 := hap [(7, ⟨#[]⟩), (0, ⟨#[98]⟩)] w2.heap.size 2 (w2.alloc (.cells #[.int .i64 7, .string ⟨#[]⟩, .int .i64 0, .string ⟨#[98]⟩] 30)).drew (FrS.of_below ((Below.refl _ _).alloc (Nat.le_refl _) _).drew) (RowIn.of_block (heap_alloc_new w2 _) rfl) (Nat.le_refl _) (rg_two 7 0 _ _ (by omega) (by omega) (by omega) (by omega)) (by simp)
    have c0' : ∀ o, (w2.alloc o).cell? ⟨w.heap.size, 0, none⟩ = some (.slice (some ⟨tg, 0, none⟩) N tc) := fun o => (cell_alloc w2 o _ _ (World.block_lt_of_cell? w2 ⟨w.heap.size, 0, none⟩ c0)).trans c0
    have c1' : ∀ o, (w2.alloc o).cell? ⟨w.heap.size, 1, none⟩ = some (.slice (some ⟨rg, 0, none⟩) N rc) := fun o => (cell_alloc w2 o _ _ (World.block_lt_of_cell? w2 ⟨w.heap.size, 1, none⟩ c1)).trans c1
    have d0' : ∀ o, (w2.alloc o).cell? ⟨tg, 0, none⟩ = some (.pointer (some ⟨bt, 0, none⟩)) := fun o => (cell_alloc w2 o _ _ (World.block_lt_of_cell? w2 ⟨tg, 0, none⟩ d0)).trans d0
    have d1' : ∀ o, (w2.alloc o).cell? ⟨rg, 0, none⟩ = some (.pointer (some ⟨br, 0, none⟩)) := fun o => (cell_alloc w2 o _ _ (World.block_lt_of_cell? w2 ⟨rg, 0, none⟩ d1)).trans d1
    have hN1 : (0 : Int) < (N : Int) := by omega
    have n0 := World.new_ne _ _ c0
    have n1 := World.new_ne _ _ d0
    have n2 := World.new_ne _ _ d1
    have ltg : tg < w2.heap.size := World.block_lt_of_cell? w2 ⟨tg, 0, none⟩ d0
    have lrg : rg < w2.heap.size := World.block_lt_of_cell? w2 ⟨rg, 0, none⟩ d1
    clear hap
    go_wp2_with fail
    go_region_held3 (fun w' => w'.cell? ⟨w.heap.size, 0, none⟩ = some (.slice (some ⟨tg, 0, none⟩) N tc) ∧ w'.cell? ⟨w.heap.size, 1, none⟩ = some (.slice (some ⟨rg, 0, none⟩) N rc) ∧ w'.cell? ⟨tg, 0, none⟩ = some (.pointer (some ⟨bt, 0, none⟩)) ∧ w'.cell? ⟨rg, 0, none⟩ = some (.pointer (some ⟨br, 0, none⟩))) (go_keep)
      (first
        | (go_at_call 20; refine hap1.mono ?_; rintro e w3 ⟨rfl, hP3, hB3⟩
           have y0 : w3.cell? ⟨w.heap.size, 0, none⟩ = some (.slice (some ⟨tg, 0, none⟩) N tc) := hB3.1 0 _ (by omega) (c0' _)
           have y1 : w3.cell? ⟨w.heap.size, 1, none⟩ = some (.slice (some ⟨rg, 0, none⟩) N rc) := hB3.1 1 _ (by omega) (c1' _)
           have y2 : w3.cell? ⟨tg, 0, none⟩ = some (.pointer (some ⟨bt, 0, none⟩)) := (World.cell?_of_block (a := ⟨tg, 0, none⟩) (hB3.2 0 _ tg (by omega) (c0' _) rfl (by simp; omega))).trans (d0' _)
           have y3 : w3.cell? ⟨rg, 0, none⟩ = some (.pointer (some ⟨br, 0, none⟩)) := (World.cell?_of_block (a := ⟨rg, 0, none⟩) (hB3.2 1 _ rg (by omega) (c1' _) rfl (by simp; omega))).trans (d1' _)))
    clear c0 c1 d0 d1 hap1 c0' c1' d0' d1' hN1 hN n0 n1 n2 ltg lrg y0 y1 y2 y3 hB3 hP2
    have HP3 : Hid (PlayAt w w.heap.size 1 w3) := hP3
    clear hP3 h0 b0
    go_wp2_with fail
    go_loopw [6, 9] (fun o x wr => ∃ k : Nat, k ≤ ops.length ∧ o = .bool true ∧ x = .int .i64 k ∧ PlayAt w w.heap.size (k + 1) wr) (fun _ x _ => ops.length - (intOf x).toNat)
    case atStart => exact ⟨0, Nat.zero_le _, by simp, rfl, HP3.out⟩
    case round =>
      obtain ⟨k, hk, rfl, rfl, hP⟩ := hrel
      have hfew := HO.out.few
      by_cases hlt : k < ops.length
      · have i0 : (0 : Int) ≤ (k : Int) := by omega
        have i1 : (k : Int) < (ops.length : Int) := by omega
        obtain ⟨sb, zo, hsa, hcells⟩ : ∃ g zo, sa = some ⟨g, zo, none⟩ ∧ ∀ j v, ops[k].cells[j]? = some v → wr.cell? ⟨g, zo + k * 8 + j, none⟩ = some v := by
          rcases HO.out.mem with h | ⟨g, zo, h1, h2⟩
          · rw [h] at hlt; simp at hlt
          · refine ⟨g, zo, h1, fun j v hj => ?_⟩
            have e := h2 k hlt j v hj
            obtain ⟨_, _, _, _, _, a4⟩ := hP
            exact (World.cell?_of_block (w := w) (a := ⟨g, zo + k * 8 + j, none⟩) (a4.block g (World.block_lt_of_cell? w ⟨g, zo + k * 8 + j, none⟩ e) (fun h => h))).trans e
        subst hsa
        have hok : OpOK w ops[k] := HO.out.ok _ (List.getElem_mem hlt)
        generalize ops[k] = o at *
        have x0 : wr.cell? ⟨sb, zo + k * 8, none⟩ = some (.int .i64 o.kind) := hcells 0 _ rfl
        have x1 : wr.cell? ⟨sb, zo + k * 8 + 1, none⟩ = some (.int .i64 o.at') := hcells 1 _ rfl
        have x2 : wr.cell? ⟨sb, zo + k * 8 + 2, none⟩ = some (.int .i64 o.col) := hcells 2 _ rfl
        have x3 : wr.cell? ⟨sb, zo + k * 8 + 3, none⟩ = some (.int .i64 o.n) := hcells 3 _ rfl
        have x4 : wr.cell? ⟨sb, zo + k * 8 + 4, none⟩ = some (.slice o.sa o.ks.length o.sc) := hcells 4 _ rfl
        have x5 : wr.cell? ⟨sb, zo + k * 8 + 5, none⟩ = some (.slice o.ra o.r.length o.rc) := hcells 5 _ rfl
        have x6 : wr.cell? ⟨sb, zo + k * 8 + 6, none⟩ = some (.slice o.ta o.T.length o.tc) := hcells 6 _ rfl
        have x7 : wr.cell? ⟨sb, zo + k * 8 + 7, none⟩ = some (.int .i64 o.many) := hcells 7 _ rfl
        have HLT : Hid (k < ops.length) := hlt
        have HOK : Hid (OpOK w o) := hok
        have HP : Hid (PlayAt w w.heap.size (k + 1) wr) := hP
        clear hcells hok hP
        have FB : FrS (fun _ => False) wr (wr.alloc (.cells #[.int .i64 o.kind, .int .i64 o.at', .int .i64 o.col, .int .i64 o.n, .slice o.sa o.ks.length o.sc, .slice o.ra o.r.length o.rc, .slice o.ta o.T.length o.tc, .int .i64 o.many] 28)) := FrS.of_below ((Below.refl _ _).alloc (Nat.le_refl _) _)
        by_cases hk1 : o.kind = 1
        · rw [hk1] at x0 FB
          go_wp2_with fail
          refine (play_made (HP.out.same FB) hE (by omega) o.sc HOK.out.ks HOK.out.lk).mono ?_
          rintro e w5 ⟨rfl, hP5⟩
          go_wp2_with fail
          refine (play_still hP5 (by omega)).mono ?_
          rintro e _ ⟨rfl, rfl⟩
          go_wp2
          go_roundw
          case rel => exact ⟨k + 1, by have := HLT.out; omega, by simp, by go_num, hP5⟩
          case measure => have := HLT.out; simp [intOf]; omega
        · have hk1' : (o.kind == 1) = false := by rw [beq_eq_false_iff_ne]; exact hk1
          by_cases hk2 : o.kind < 1
          · have hP5 := HP.out.up (s' := k + 1 + 1) (Nat.le_succ _) FB
            go_wp2_with fail
            refine (play_still hP5 (by omega)).mono ?_
            rintro e _ ⟨rfl, rfl⟩
            go_wp2
            go_roundw
            case rel => exact ⟨k + 1, by have := HLT.out; omega, by simp, by go_num, hP5⟩
            case measure => have := HLT.out; simp [intOf]; omega
          · by_cases hk3 : (3 : Int) < o.kind
            · have hP5 := HP.out.up (s' := k + 1 + 1) (Nat.le_succ _) FB
              go_wp2_with fail
              refine (play_still hP5 (by omega)).mono ?_
              rintro e _ ⟨rfl, rfl⟩
              go_wp2
              go_roundw
              case rel => exact ⟨k + 1, by have := HLT.out; omega, by simp, by go_num, hP5⟩
              case measure => have := HLT.out; simp [intOf]; omega
            · have hk23 : o.kind = 2 ∨ o.kind = 3 := by omega
              obtain ⟨N, tg, tc, rg, rc, hN, hN9, c0, c1, htab⟩ := play_tabs HP.out hE (by omega)
              have c0' : ∀ o, (wr.alloc o).cell? ⟨w.heap.size, 0, none⟩ = some (.slice (some ⟨tg, 0, none⟩) N tc) := fun o => (cell_alloc wr o _ _ (World.block_lt_of_cell? wr ⟨w.heap.size, 0, none⟩ c0)).trans c0
              have c1' : ∀ o, (wr.alloc o).cell? ⟨w.heap.size, 1, none⟩ = some (.slice (some ⟨rg, 0, none⟩) N rc) := fun o => (cell_alloc wr o _ _ (World.block_lt_of_cell? wr ⟨w.heap.size, 1, none⟩ c1)).trans c1
              have n0 := World.new_ne _ _ c0
              have HTAB := htab
              clear htab
              have hbx := heap_alloc_new wr (.cells #[.int .i64 o.kind, .int .i64 o.at', .int .i64 o.col, .int .i64 o.n, .slice o.sa o.ks.length o.sc, .slice o.ra o.r.length o.rc, .slice o.ta o.T.length o.tc, .int .i64 o.many] 28)
              have c0a := c0' (.cells #[.int .i64 o.kind, .int .i64 o.at', .int .i64 o.col, .int .i64 o.n, .slice o.sa o.ks.length o.sc, .slice o.ra o.r.length o.rc, .slice o.ta o.T.length o.tc, .int .i64 o.many] 28)
              have c1a := c1' (.cells #[.int .i64 o.kind, .int .i64 o.at', .int .i64 o.col, .int .i64 o.n, .slice o.sa o.ks.length o.sc, .slice o.ra o.r.length o.rc, .slice o.ta o.T.length o.tc, .int .i64 o.many] 28)
              clear c0' c1'
              go_wp2_with fail
              generalize wr.alloc (.cells #[.int .i64 o.kind, .int .i64 o.at', .int .i64 o.col, .int .i64 o.n, .slice o.sa o.ks.length o.sc, .slice o.ra o.r.length o.rc, .slice o.ta o.T.length o.tc, .int .i64 o.many] 28) = wa at *
              have b0 : wa.cell? ⟨wr.heap.size, 0, none⟩ = some (.int .i64 o.kind) := by rw [cell_of_row _ _ _ _ _ _ hbx]; rfl
              have b1 : wa.cell? ⟨wr.heap.size, 1, none⟩ = some (.int .i64 o.at') := by rw [cell_of_row _ _ _ _ _ _ hbx]; rfl
              have b2 : wa.cell? ⟨wr.heap.size, 2, none⟩ = some (.int .i64 o.col) := by rw [cell_of_row _ _ _ _ _ _ hbx]; rfl
              have b3 : wa.cell? ⟨wr.heap.size, 3, none⟩ = some (.int .i64 o.n) := by rw [cell_of_row _ _ _ _ _ _ hbx]; rfl
              have b4 : wa.cell? ⟨wr.heap.size, 4, none⟩ = some (.slice o.sa o.ks.length o.sc) := by rw [cell_of_row _ _ _ _ _ _ hbx]; rfl
              have b5 : wa.cell? ⟨wr.heap.size, 5, none⟩ = some (.slice o.ra o.r.length o.rc) := by rw [cell_of_row _ _ _ _ _ _ hbx]; rfl
              have b6 : wa.cell? ⟨wr.heap.size, 6, none⟩ = some (.slice o.ta o.T.length o.tc) := by rw [cell_of_row _ _ _ _ _ _ hbx]; rfl
              have b7 : wa.cell? ⟨wr.heap.size, 7, none⟩ = some (.int .i64 o.many) := by rw [cell_of_row _ _ _ _ _ _ hbx]; rfl
              have zwa : wr.heap.size < wa.heap.size := (Array.getElem?_eq_some_iff.1 hbx).1
              have ain := HOK.out.ain
              clear hbx
              go_region_held3 (fun w' => w'.cell? ⟨wr.heap.size, 1, none⟩ = some (.int .i64 o.at') ∧ w'.cell? ⟨w.heap.size, 0, none⟩ = some (.slice (some ⟨tg, 0, none⟩) N tc)) (go_keep)
                (first | (go_at_call 21; refine (lawPick_any o.at' N _ hN (by omega) ain.1 ain.2).mono ?_; rintro e w5 ⟨q, rfl, hq, rfl⟩))
              obtain ⟨bt, br, d0, d1, hst⟩ := HTAB q hq
              have d0a : wa.cell? ⟨tg, q, none⟩ = some (.pointer (some ⟨bt, 0, none⟩)) := (World.cell?_of_block (w := wr) (a := ⟨tg, q, none⟩) (FB.block tg (World.block_lt_of_cell? wr ⟨tg, q, none⟩ d0) (fun h => h))).trans d0
              have d1a : wa.cell? ⟨rg, q, none⟩ = some (.pointer (some ⟨br, 0, none⟩)) := (World.cell?_of_block (w := wr) (a := ⟨rg, q, none⟩) (FB.block rg (World.block_lt_of_cell? wr ⟨rg, q, none⟩ d1) (fun h => h))).trans d1
              have ltg : tg < wa.heap.size := World.block_lt_of_cell? wa ⟨tg, q, none⟩ d0a
              have lrg : rg < wa.heap.size := World.block_lt_of_cell? wa ⟨rg, q, none⟩ d1a
              have hst1 := hst o HOK.out hk23
              have q0 : (0 : Int) ≤ (q : Int) := by omega
              have q1 : (q : Int) < (N : Int) := by omega
              clear hst HTAB d0 d1
              unfold OpM.cells at hst1
              have HS1 : Hid (Calls Tryd.prog 22 #[.pointer (some ⟨w.heap.size, 0, none⟩), .pointer (some ⟨bt, 0, none⟩), .pointer (some ⟨br, 0, none⟩), .agg #[.int .i64 o.kind, .int .i64 o.at', .int .i64 o.col, .int .i64 o.n, .slice o.sa o.ks.length o.sc, .slice o.ra o.r.length o.rc, .slice o.ta o.T.length o.tc, .int .i64 o.many]] wa.drew.drew fun e w' => e = .returned (.bool true) ∧ PlayAt w w.heap.size (k + 1 + 1) w' ∧ BookSame w.heap.size wa.drew.drew w' ∧ (∀ b, wr.heap.size ≤ b → b < wa.drew.drew.heap.size → w'.heap[b]? = wa.drew.drew.heap[b]?)) := hst1 _ ⟨FB.os, FB.tape, FB.output, FB.size, FB.block⟩
              clear hst1
              go_wp2_with fail
              go_region_held3 (fun w' => w'.cell? ⟨w.heap.size, 0, none⟩ = some (.slice (some ⟨tg, 0, none⟩) N tc) ∧ w'.cell? ⟨w.heap.size, 1, none⟩ = some (.slice (some ⟨rg, 0, none⟩) N rc) ∧ w'.cell? ⟨tg, q, none⟩ = some (.pointer (some ⟨bt, 0, none⟩)) ∧ w'.cell? ⟨rg, q, none⟩ = some (.pointer (some ⟨br, 0, none⟩)) ∧ w'.cell? ⟨wr.heap.size, 0, none⟩ = some (.int .i64 o.kind) ∧ w'.cell? ⟨wr.heap.size, 1, none⟩ = some (.int .i64 o.at') ∧ w'.cell? ⟨wr.heap.size, 2, none⟩ = some (.int .i64 o.col) ∧ w'.cell? ⟨wr.heap.size, 3, none⟩ = some (.int .i64 o.n) ∧ w'.cell? ⟨wr.heap.size, 4, none⟩ = some (.slice o.sa o.ks.length o.sc) ∧ w'.cell? ⟨wr.heap.size, 5, none⟩ = some (.slice o.ra o.r.length o.rc) ∧ w'.cell? ⟨wr.heap.size, 6, none⟩ = some (.slice o.ta o.T.length o.tc) ∧ w'.cell? ⟨wr.heap.size, 7, none⟩ = some (.int .i64 o.many)) (go_keep)
                (first
                  | (go_at_call 22; refine HS1.out.mono ?_; rintro e w6 ⟨rfl, hP6, hB6, hK6⟩
                     have y0 : w6.cell? ⟨w.heap.size, 0, none⟩ = some (.slice (some ⟨tg, 0, none⟩) N tc) := hB6.1 0 _ (by omega) c0a
                     have y1 : w6.cell? ⟨w.heap.size, 1, none⟩ = some (.slice (some ⟨rg, 0, none⟩) N rc) := hB6.1 1 _ (by omega) c1a
                     have y2 : w6.cell? ⟨tg, q, none⟩ = some (.pointer (some ⟨bt, 0, none⟩)) := (World.cell?_of_block (w := wa) (a := ⟨tg, q, none⟩) (hB6.2 0 _ tg (by omega) c0a rfl ltg)).trans d0a
                     have y3 : w6.cell? ⟨rg, q, none⟩ = some (.pointer (some ⟨br, 0, none⟩)) := (World.cell?_of_block (w := wa) (a := ⟨rg, q, none⟩) (hB6.2 1 _ rg (by omega) c1a rfl lrg)).trans d1a
                     have u0 : w6.cell? ⟨wr.heap.size, 0, none⟩ = some (.int .i64 o.kind) := (World.cell?_of_block (w := wa) (a := ⟨wr.heap.size, 0, none⟩) (hK6 _ (Nat.le_refl _) zwa)).trans b0
                     have u1 : w6.cell? ⟨wr.heap.size, 1, none⟩ = some (.int .i64 o.at') := (World.cell?_of_block (w := wa) (a := ⟨wr.heap.size, 1, none⟩) (hK6 _ (Nat.le_refl _) zwa)).trans b1
                     have u2 : w6.cell? ⟨wr.heap.size, 2, none⟩ = some (.int .i64 o.col) := (World.cell?_of_block (w := wa) (a := ⟨wr.heap.size, 2, none⟩) (hK6 _ (Nat.le_refl _) zwa)).trans b2
                     have u3 : w6.cell? ⟨wr.heap.size, 3, none⟩ = some (.int .i64 o.n) := (World.cell?_of_block (w := wa) (a := ⟨wr.heap.size, 3, none⟩) (hK6 _ (Nat.le_refl _) zwa)).trans b3
                     have u4 : w6.cell? ⟨wr.heap.size, 4, none⟩ = some (.slice o.sa o.ks.length o.sc) := (World.cell?_of_block (w := wa) (a := ⟨wr.heap.size, 4, none⟩) (hK6 _ (Nat.le_refl _) zwa)).trans b4
                     have u5 : w6.cell? ⟨wr.heap.size, 5, none⟩ = some (.slice o.ra o.r.length o.rc) := (World.cell?_of_block (w := wa) (a := ⟨wr.heap.size, 5, none⟩) (hK6 _ (Nat.le_refl _) zwa)).trans b5
                     have u6 : w6.cell? ⟨wr.heap.size, 6, none⟩ = some (.slice o.ta o.T.length o.tc) := (World.cell?_of_block (w := wa) (a := ⟨wr.heap.size, 6, none⟩) (hK6 _ (Nat.le_refl _) zwa)).trans b6
                     have u7 : w6.cell? ⟨wr.heap.size, 7, none⟩ = some (.int .i64 o.many) := (World.cell?_of_block (w := wa) (a := ⟨wr.heap.size, 7, none⟩) (hK6 _ (Nat.le_refl _) zwa)).trans b7))
              go_wp2_with fail
              refine (play_still hP6 (by omega)).mono ?_
              rintro e _ ⟨rfl, rfl⟩
              go_wp2
              go_roundw
              case rel => exact ⟨k + 1, by have := HLT.out; omega, by simp, by go_num, hP6⟩
              case measure => have := HLT.out; simp [intOf]; omega
      · have i1 : ¬ (k : Int) < (ops.length : Int) := by omega
        obtain ⟨_, _, _, _, _, a4⟩ := hP
        have HF : Hid (FrS (fun _ => False) w wr) := a4
        clear a4
        go_wp2
        go_ret
        exact ⟨by simp, HF.out⟩

end Go.Proofs.YtcconhgbefhdeaaDoor

namespace Go.Proofs.YtcconhgbefhdeaaDoor
open Go.RowKit
attribute [local go_sem ↓] Go.wp_at_zero Go.wp_at_succ

theorem OpsA.keep {w w' : World} {sa : Option Addr} {ops : List OpM} (h : OpsA w sa ops) (hF : FrS (fun _ => False) w w') : OpsA w' sa ops := by
  have hb : ∀ k, k < w.heap.size → w'.heap[k]? = w.heap[k]? := fun k hk => hF.block k hk (fun h => h)
  refine ⟨?_, fun o ho => ?_, h.few⟩
  · rcases h.mem with e | ⟨g, zo, e, h2⟩
    · exact .inl e
    · refine .inr ⟨g, zo, e, fun k hk j v hj => ?_⟩
      have e2 := h2 k hk j v hj
      exact (World.cell?_of_block (w := w) (a := ⟨g, zo + k * 8 + j, none⟩) (hb g (World.block_lt_of_cell? w ⟨g, zo + k * 8 + j, none⟩ e2))).trans e2
  · have k := h.ok o ho
    exact ⟨k.ks.keep hb, k.row.keep hb, k.tests.keep hb, k.lk, k.lr, k.lt, k.rg, k.tg, k.kin, k.ain, k.min⟩

theorem two_here (W : World) (o1 o2 : Obj) : ((W.alloc o1).alloc o2).heap[W.heap.size]? = some o1 ∧ ((W.alloc o1).alloc o2).heap[W.heap.size + 1]? = some o2 :=
  ⟨(Below.heap_alloc _ _ _ (by simp)).trans (heap_alloc_new W _), new_at (by simp) o2⟩

def opA : OpM := ⟨3, 0, 0, 0, 0, none, 0, [], none, 0, [], none, 0, []⟩
def opB (g : Nat) : OpM := ⟨3, 0, 0, 0, 0, none, 0, [], none, 0, [], some ⟨g, 0, none⟩, 1, [⟨5, 0, 5, ⟨#[]⟩⟩]⟩

theorem first_ops (w : World) : OpsA ((w.alloc (.cells #[.int .i64 5, .int .i64 0, .int .i64 5, .string ⟨#[]⟩] 32)).alloc (.cells #[.int .i64 3, .int .i64 0, .int .i64 0, .int .i64 0, .slice none 0 0, .slice none 0 0, .slice none 0 0, .int .i64 0, .int .i64 3, .int .i64 0, .int .i64 0, .int .i64 0, .slice none 0 0, .slice none 0 0, .slice (some ⟨w.heap.size, 0, none⟩) 1 1, .int .i64 0] 28)) (some ⟨w.heap.size + 1, 0, none⟩) [opA, opB w.heap.size] := by
  obtain ⟨t1, t2⟩ := two_here w (.cells #[.int .i64 5, .int .i64 0, .int .i64 5, .string ⟨#[]⟩] 32) (.cells #[.int .i64 3, .int .i64 0, .int .i64 0, .int .i64 0, .slice none 0 0, .slice none 0 0, .slice none 0 0, .int .i64 0, .int .i64 3, .int .i64 0, .int .i64 0, .int .i64 0, .slice none 0 0, .slice none 0 0, .slice (some ⟨w.heap.size, 0, none⟩) 1 1, .int .i64 0] 28)
  refine ⟨.inr ⟨_, 0, rfl, fun k hk j v hj => ?_⟩, fun o ho => ?_, by simp⟩
  · rw [cell_of_row _ _ _ _ _ _ t2]
    have hk2 : k = 0 ∨ k = 1 := by simp at hk; omega
    rcases hk2 with rfl | rfl
    · have hj8 : j < 8 := (Array.getElem?_eq_some_iff.1 hj).1
      have hj9 : j = 0 ∨ j = 1 ∨ j = 2 ∨ j = 3 ∨ j = 4 ∨ j = 5 ∨ j = 6 ∨ j = 7 := by omega
      rcases hj9 with rfl | rfl | rfl | rfl | rfl | rfl | rfl | rfl <;> exact hj
    · have hj8 : j < 8 := (Array.getElem?_eq_some_iff.1 hj).1
      have hj9 : j = 0 ∨ j = 1 ∨ j = 2 ∨ j = 3 ∨ j = 4 ∨ j = 5 ∨ j = 6 ∨ j = 7 := by omega
      rcases hj9 with rfl | rfl | rfl | rfl | rfl | rfl | rfl | rfl <;> exact hj
  · have ho2 : o = opA ∨ o = opB w.heap.size := by simpa using ho
    rcases ho2 with rfl | rfl
    · exact ⟨.inl rfl, .inl rfl, .inl rfl, by simp [opA], by simp [opA], by simp [opA], fun i hi => absurd hi (by simp [opA]), fun i hi => absurd hi (by simp [opA]), by simp [opA], by simp [opA], by simp [opA]⟩
    · refine ⟨.inl rfl, .inl rfl, .inr ⟨w.heap.size, 0, rfl, fun i hi => ?_⟩, by simp [opB], by simp [opB], by simp [opB], fun i hi => absurd hi (by simp [opB]), fun i hi => ?_, by simp [opB], by simp [opB], by simp [opB]⟩
      · have hi0 : i = 0 := by simp [opB] at hi; omega
        subst hi0
        rw [cell_of_row _ _ _ _ _ _ t1, cell_of_row _ _ _ _ _ _ t1, cell_of_row _ _ _ _ _ _ t1, cell_of_row _ _ _ _ _ _ t1]
        exact ⟨rfl, rfl, rfl, rfl⟩
      · have hi0 : i = 0 := by simp [opB] at hi; omega
        subst hi0
        simp [opB]

set_option maxRecDepth 100000 in
set_option maxHeartbeats 1000000 in
theorem scans_all (sa : Option Addr) (cap : Nat) (ops : List OpM) (w : World) (hE : ErrType w) (hops : OpsA w sa ops) :
    Calls Tryd.prog 3 #[.slice sa ops.length cap] w fun e w' => e = .returned (.bool true) ∧ FrS (fun _ => False) w w' := by
  have HO : Hid (OpsA w sa ops) := hops
  clear hops
  go_enter Tryd.func3, Tryd.ntmps3
  have b1 := (Below.refl w.heap.size w).alloc (Nat.le_refl _) (.cells #[.int .i64 5, .int .i64 0, .int .i64 5, .string ⟨#[]⟩] 32)
  have b2 := b1.alloc (by simp) (.cells #[.int .i64 3, .int .i64 0, .int .i64 0, .int .i64 0, .slice none 0 0, .slice none 0 0, .slice none 0 0, .int .i64 0, .int .i64 3, .int .i64 0, .int .i64 0, .int .i64 0, .slice none 0 0, .slice none 0 0, .slice (some ⟨w.heap.size, 0, none⟩) 1 1, .int .i64 0] 28)
  have hp := plays_three _ 2 _ _ (hE.below b2) (first_ops w)
  have HB2 := FrS.of_below (S := fun _ => False) b2
  go_wp2_with fail
  refine hp.mono ?_
  clear hp b1 b2
  rintro e w1 ⟨rfl, hF1⟩
  have hF : FrS (fun _ => False) w w1 := HB2.trans hF1 (fun _ h => h.elim)
  have HF : Hid (FrS (fun _ => False) w w1) := hF
  clear HB2 hF1 hF
  go_wp2_with fail
  refine (plays_three sa cap ops w1 (hE.keep (HF.out.block 0 hE.lt (fun h => h))) (HO.out.keep HF.out)).mono ?_
  rintro e w2 ⟨rfl, hF2⟩
  have HG : Hid (FrS (fun _ => False) w w2) := HF.out.trans hF2 (fun _ h => h.elim)
  clear hF2
  go_wp2
  go_ret
  exact ⟨by simp, HG.out⟩

end Go.Proofs.YtcconhgbefhdeaaDoor

namespace Go.Proofs.YtcconhgbefhdeaaDoor
open Go.RowKit

theorem kinds_new (w : World) (ks : List Int) : KindsIn (w.alloc (.cells (ks.map (Value.int .i64)).toArray 3)) w.heap.size ks := fun i hi => by
  rw [cell_of_row _ _ _ _ _ _ (heap_alloc_new w _)]; simp [hi]

theorem rowBlk_new (w : World) (r : List (Int × ByteArray)) : RowBlk (w.alloc (.cells (vcells r).toArray 30)) (w.heap.size, r) := heap_alloc_new w _

def bA : ByteArray := ⟨#[97]⟩
def bB : ByteArray := ⟨#[98]⟩
def bC : ByteArray := ⟨#[99]⟩
def bE : ByteArray := ⟨#[]⟩
def knR1 : List (Int × ByteArray) := [(5, bE), (0, bA)]
def knR2 : List (Int × ByteArray) := [(7, bE), (0, bB)]
def knR3 : List (Int × ByteArray) := [(5, bE), (0, bC)]
def knT : List Tst := [⟨5, 0, 5, bE⟩, ⟨1, 1, 0, bC⟩, ⟨8, 0, 0, bE⟩]

theorem knFilter : [knR1, knR2, knR3].filter (fun r => passB [1, 3] r knT) = [knR2, knR3] := by
  have h1 : passB [1, 3] knR1 knT = false := by kernel_rfl
  have h2 : passB [1, 3] knR2 knT = true := by kernel_rfl
  have h3 : passB [1, 3] knR3 knT = true := by kernel_rfl
  simp [List.filter, h1, h2, h3]

theorem knFits (r : List (Int × ByteArray)) (h : r = knR1 ∨ r = knR2 ∨ r = knR3) : FitsRow [1, 3] r ∧ (∀ p ∈ r, p.2.size ≤ 1000000) ∧ r.length = 2 := by
  have e1 : fitsB 1 5 bE = true := by kernel_rfl
  have e2 : fitsB 1 7 bE = true := by kernel_rfl
  have e3 : fitsB 3 0 bA = true := by kernel_rfl
  have e4 : fitsB 3 0 bB = true := by kernel_rfl
  have e5 : fitsB 3 0 bC = true := by kernel_rfl
  have s1 : bE.size = 0 := by kernel_rfl
  have s2 : bA.size = 1 := by kernel_rfl
  have s3 : bB.size = 1 := by kernel_rfl
  have s4 : bC.size = 1 := by kernel_rfl
  rcases h with rfl | rfl | rfl
  all_goals
    refine ⟨⟨rfl, fun i h h' => ?_⟩, ?_, rfl⟩
    · match i, h with
      | 0, _ => assumption
      | 1, _ => assumption
    · intro p hp
      simp only [knR1, knR2, knR3, List.mem_cons, List.not_mem_nil, or_false] at hp
      rcases hp with rfl | rfl <;> simp only [s1, s2, s3, s4] <;> omega

theorem knValid : ValidT [1, 3] knT := by
  have e1 : fitsB 1 5 bE = true := by kernel_rfl
  have e5 : fitsB 3 0 bC = true := by kernel_rfl
  refine ⟨fun i h => ?_, .inr (by kernel_rfl), by decide⟩
  match i, h with
  | 0, _ => exact .inl ⟨by simp [knT], 0, rfl, by simp, e1⟩
  | 1, _ => exact .inl ⟨by simp [knT], 1, rfl, by simp, e5⟩
  | 2, _ => exact .inr ⟨by simp [knT], by simp [knT, takesI, cntI]⟩

theorem knTests (w : World) : TestsIn (w.alloc (.cells #[.int .i64 5, .int .i64 0, .int .i64 5, .string ⟨#[]⟩, .int .i64 1, .int .i64 1, .int .i64 0, .string ⟨#[99]⟩, .int .i64 8, .int .i64 0, .int .i64 0, .string ⟨#[]⟩] 32)) w.heap.size knT := fun i hi => by
  have hb := heap_alloc_new w (.cells #[.int .i64 5, .int .i64 0, .int .i64 5, .string ⟨#[]⟩, .int .i64 1, .int .i64 1, .int .i64 0, .string ⟨#[99]⟩, .int .i64 8, .int .i64 0, .int .i64 0, .string ⟨#[]⟩] 32)
  rw [cell_of_row _ _ _ _ _ _ hb, cell_of_row _ _ _ _ _ _ hb, cell_of_row _ _ _ _ _ _ hb, cell_of_row _ _ _ _ _ _ hb]
  match i, hi with
  | 0, _ => exact ⟨rfl, rfl, rfl, rfl⟩
  | 1, _ => exact ⟨rfl, rfl, rfl, rfl⟩
  | 2, _ => exact ⟨rfl, rfl, rfl, rfl⟩

theorem knRows (a b c : Nat) : ∀ p ∈ [] ++ [(a, knR1)] ++ [(b, knR2)] ++ [(c, knR3)], p.2.length = [(1 : Int), 3].length ∧ ∀ x ∈ p.2, x.2.size ≤ 1000000 := by
  intro p hp
  simp only [List.nil_append, List.append_assoc, List.mem_append, List.mem_singleton] at hp
  rcases hp with rfl | rfl | rfl
  · exact ⟨rfl, (knFits _ (.inl rfl)).2.1⟩
  · exact ⟨rfl, (knFits _ (.inr (.inl rfl))).2.1⟩
  · exact ⟨rfl, (knFits _ (.inr (.inr rfl))).2.1⟩

theorem knTwo (w : World) : RowsIn (((w.alloc (.cells (vcells knR2).toArray 30)).alloc (.cells (vcells knR3).toArray 30)).alloc (.cells #[.slice (some ⟨w.heap.size, 0, none⟩) 2 2, .slice (some ⟨w.heap.size + 1, 0, none⟩) 2 2] 25)) (some ⟨w.heap.size + 2, 0, none⟩) [(w.heap.size, knR2), (w.heap.size + 1, knR3)] := by
  have hz : ((w.alloc (.cells (vcells knR2).toArray 30)).alloc (.cells (vcells knR3).toArray 30)).heap.size = w.heap.size + 2 := by simp
  refine ⟨.inr ⟨w.heap.size + 2, rfl, fun k hk => ?_⟩, fun p hp => ?_⟩
  · rw [← hz, cell_of_row _ _ _ _ _ _ (heap_alloc_new _ _)]
    match k, hk with
    | 0, _ => rfl
    | 1, _ => rfl
  · simp only [List.mem_cons, List.not_mem_nil, or_false] at hp
    unfold RowBlk
    rcases hp with rfl | rfl
    · rw [Below.heap_alloc _ _ _ (by simp; omega), Below.heap_alloc _ _ _ (by simp)]
      exact heap_alloc_new w _
    · rw [Below.heap_alloc _ _ _ (by simp)]
      exact new_second w _ _

theorem Fr.tableBelow {w w' w0 : World} {base bt bs : Nat} {ks : List Int} {L : List (Nat × List (Int × ByteArray))} {sv fv : Value} (h : TableAt w0 base bt bs ks L sv fv) (hF : Fr (bs :: fv.ownBlock.toList) w w') (hb : base ≤ w.heap.size) : Below base w w' :=
  hF.below hb (fun i hi => by
    rcases List.mem_cons.1 hi with rfl | hi
    · exact h.sto.lo
    · exact (h.sto.rows.own.lt i (by simpa using hi)).1)

set_option maxRecDepth 100000 in
set_option maxHeartbeats 1000000 in
theorem known_ok (w : World) : Calls Tryd.prog 9 #[] w fun e w' => e = .returned (.bool true) ∧ Below w.heap.size w w' := by
  go_enter Tryd.func9, Tryd.ntmps9
  go_wp2_with fail
  refine (new_ok w.heap.size 2 [1, 3] _ (kinds_new w [1, 3]) (by decide) (by decide) (by decide)).mono ?_
  rintro e w1 ⟨bt, bs, sv, rfl, h1, hb1⟩
  have s1 := hb1.size
  simp at s1
  have t1 := h1.below ((Below.refl w1.heap.size w1).alloc (Nat.le_refl _) (.cells (vcells knR1).toArray 30))
  go_wp2_with fail
  refine (tableAppend_ok _ bt bs [1, 3] [] sv _ knR1 w1.heap.size 2 _ t1 (by simp; omega) (by decide) (rowBlk_new w1 knR1).rowIn (by decide) (by decide) (knFits _ (.inl rfl)).1 (knFits _ (.inl rfl)).2.1).mono ?_
  rintro e w2 ⟨rfl, fv2, g2, h2, _, hF2, _⟩
  have B2 := hF2.tableBelow t1 (by simp; omega)
  have s2 := hF2.size
  simp at s2
  clear hF2
  have t2 := h2.below ((Below.refl w2.heap.size w2).alloc (Nat.le_refl _) (.cells (vcells knR2).toArray 30))
  go_wp2_with fail
  refine (tableAppend_ok _ bt bs [1, 3] _ sv _ knR2 w2.heap.size 2 _ t2 (by simp; omega) (by simp) (rowBlk_new w2 knR2).rowIn (by decide) (by decide) (knFits _ (.inr (.inl rfl))).1 (knFits _ (.inr (.inl rfl))).2.1).mono ?_
  rintro e w3 ⟨rfl, fv3, g3, h3, _, hF3, _⟩
  have B3 := hF3.tableBelow t2 (by simp; omega)
  have s3 := hF3.size
  simp at s3
  clear hF3
  have t3 := h3.below ((Below.refl w3.heap.size w3).alloc (Nat.le_refl _) (.cells (vcells knR3).toArray 30))
  go_wp2_with fail
  refine (tableAppend_ok _ bt bs [1, 3] _ sv _ knR3 w3.heap.size 2 _ t3 (by simp; omega) (by simp) (rowBlk_new w3 knR3).rowIn (by decide) (by decide) (knFits _ (.inr (.inr rfl))).1 (knFits _ (.inr (.inr rfl))).2.1).mono ?_
  rintro e w4 ⟨rfl, fv4, g4, h4, _, hF4, _⟩
  have B4 := hF4.tableBelow t3 (by simp; omega)
  have s4 := hF4.size
  simp at s4
  clear hF4
  have t4 := h4.below ((Below.refl w4.heap.size w4).alloc (Nat.le_refl _) (.cells #[.int .i64 5, .int .i64 0, .int .i64 5, .string ⟨#[]⟩, .int .i64 1, .int .i64 1, .int .i64 0, .string ⟨#[99]⟩, .int .i64 8, .int .i64 0, .int .i64 0, .string ⟨#[]⟩] 32))
  go_wp2_with fail
  refine (scan_ok _ bt bs [1, 3] _ sv _ 3 (some ⟨w4.heap.size, 0, none⟩) knT _ t4 (by simp) (by decide) (by decide) (knRows g2 g3 g4) (.inr ⟨_, rfl, knTests w4⟩) knValid).mono ?_
  rintro e w5 ⟨v, M, rfl, hM, hMe, hb5, _⟩
  have s5 := hb5.size
  simp at s5
  have hMk : M.map Prod.snd = [knR2, knR3] := by rw [hMe]; exact knFilter
  have hM2 : M.length = 2 := by have := congrArg List.length hMk; simpa using this
  have hM' : RowsAt (((w5.alloc (.cells (vcells knR2).toArray 30)).alloc (.cells (vcells knR3).toArray 30)).alloc (.cells #[.slice (some ⟨w5.heap.size, 0, none⟩) 2 2, .slice (some ⟨w5.heap.size + 1, 0, none⟩) 2 2] 25)) _ v M :=
    hM.keepOn (fun k hk _ => by rw [Below.heap_alloc _ _ _ (by simp; omega), Below.heap_alloc _ _ _ (by simp; omega), Below.heap_alloc _ _ _ hk])
  obtain ⟨va, vc, hve, hvin⟩ := hM'.rowsIn
  rw [hM2] at hve
  subst hve
  have HV : Hid (RowsIn (((w5.alloc (.cells (vcells knR2).toArray 30)).alloc (.cells (vcells knR3).toArray 30)).alloc (.cells #[.slice (some ⟨w5.heap.size, 0, none⟩) 2 2, .slice (some ⟨w5.heap.size + 1, 0, none⟩) 2 2] 25)) va M) := hvin
  have HK : Hid (M.map Prod.snd = [knR2, knR3]) := hMk
  have H2 : Hid (M.length = 2) := hM2
  clear hvin hMk hM2 hM' hM hMe t1 t2 t3 t4 h1 h2 h3 h4
  go_wp2_with fail
  have hs := same_eq va (some ⟨w5.heap.size + 2, 0, none⟩) vc 2 M [(w5.heap.size, knR2), (w5.heap.size + 1, knR3)] _ HV.out (knTwo w5) HK.out (by have := H2.out; omega) (fun p hp => by
    have : p.2 ∈ [knR2, knR3] := by rw [← HK.out]; exact List.mem_map_of_mem hp
    simp only [List.mem_cons, List.not_mem_nil, or_false] at this
    rcases this with h | h <;> rw [h] <;> decide)
  rw [H2.out] at hs
  refine hs.mono ?_
  clear hs
  rintro e w6 ⟨rfl, q, rfl⟩
  go_wp2
  go_ret
  refine ⟨rfl, ?_⟩
  have b1 : Below w.heap.size w w1 := ((Below.refl _ _).alloc (Nat.le_refl _) _).trans (hb1.mono (by simp))
  have b2 : Below w.heap.size w w2 := (b1.alloc (by omega) _).trans (B2.mono (by simp))
  have b3 : Below w.heap.size w w3 := (b2.alloc (by omega) _).trans (B3.mono (by simp))
  have b4 : Below w.heap.size w w4 := (b3.alloc (by omega) _).trans (B4.mono (by simp))
  have b5 : Below w.heap.size w w5 := (b4.alloc (by omega) _).trans (hb5.mono (by simp; omega))
  exact (((b5.alloc (by omega) _).alloc (by simp; omega) _).alloc (by simp; omega) _).trans ((drewN_below _ q).mono (by simp; omega))

end Go.Proofs.YtcconhgbefhdeaaDoor
