import Derived.Test.YtcconhgbefhdeaaDoorFoldsP15
import Derived.Test.YtcconhgbefhdeaaDoorFoldsP17
namespace Go.Proofs.YtcconhgbefhdeaaDoor
open Go.RowKit

/-- P7: what is wrong, and where. -/
def foldFault (ks : List Int) (T : List Tst) (c how : Int) : Int × Int := if (testFault ks T).1 ≠ 0 then (3, (testFault ks T).2) else if colOK ks c how then (0, 0) else (4, c)

theorem InnerErr.setText {w : World} {v : Value} {k a : Int} {B : Nat} {s : ByteArray} (h : InnerErr w v k a) (b1 : w.cell? ⟨B, 1, none⟩ = some (.string s)) (u0 u1 : Value) :
    InnerErr ((w.setCell ⟨B, 0, none⟩ u0).setCell ⟨B, 1, none⟩ u1) v k a := by
  obtain ⟨eb, fb, rfl, h1, h2, h3⟩ := h
  have ne : eb ≠ B := by rintro rfl; rw [b1] at h1; simp at h1
  have nf : fb ≠ B := by rintro rfl; rw [b1] at h3; simp at h3
  have far : ∀ b o, b ≠ B → ((w.setCell ⟨B, 0, none⟩ u0).setCell ⟨B, 1, none⟩ u1).cell? ⟨b, o, none⟩ = w.cell? ⟨b, o, none⟩ := fun b o hb => by
    rw [World.cell?_setCell_far _ _ _ _ (fun e => hb e.symm), World.cell?_setCell_far _ _ _ _ (fun e => hb e.symm)]
  exact ⟨eb, fb, rfl, (far _ _ ne).trans h1, (far _ _ nf).trans h2, (far _ _ nf).trans h3⟩

theorem FaultAt.setText {w : World} {v : Value} {k a : Int} {B : Nat} {s : ByteArray} (h : FaultAt w v k a) (b1 : w.cell? ⟨B, 1, none⟩ = some (.string s)) (u0 u1 : Value) :
    FaultAt ((w.setCell ⟨B, 0, none⟩ u0).setCell ⟨B, 1, none⟩ u1) v k a := by
  obtain ⟨fb, rfl, h2, h3⟩ := h
  have nf : fb ≠ B := by rintro rfl; rw [b1] at h3; simp at h3
  have far : ∀ b o, b ≠ B → ((w.setCell ⟨B, 0, none⟩ u0).setCell ⟨B, 1, none⟩ u1).cell? ⟨b, o, none⟩ = w.cell? ⟨b, o, none⟩ := fun b o hb => by
    rw [World.cell?_setCell_far _ _ _ _ (fun e => hb e.symm), World.cell?_setCell_far _ _ _ _ (fun e => hb e.symm)]
  exact ⟨fb, rfl, (far _ _ nf).trans h2, (far _ _ nf).trans h3⟩

theorem InnerErr.setOne {w : World} {v : Value} {k a : Int} {B : Nat} {x : Value} {t : TypeId} (h : InnerErr w v k a) (b1 : w.heap[B]? = some (.cells #[x] t (0, 0))) (u : Value) : InnerErr (w.setCell ⟨B, 0, none⟩ u) v k a := by
  obtain ⟨eb, fb, rfl, h1, h2, h3⟩ := h
  have ne : eb ≠ B := by rintro rfl; rw [cell_of_row _ _ _ _ _ _ b1] at h1; simp at h1
  have nf : fb ≠ B := by rintro rfl; rw [cell_of_row _ _ _ _ _ _ b1] at h3; simp at h3
  have far : ∀ b o, b ≠ B → (w.setCell ⟨B, 0, none⟩ u).cell? ⟨b, o, none⟩ = w.cell? ⟨b, o, none⟩ := fun b o hb => by
    rw [World.cell?_setCell_far _ _ _ _ (fun e => hb e.symm)]
  exact ⟨eb, fb, rfl, (far _ _ ne).trans h1, (far _ _ nf).trans h2, (far _ _ nf).trans h3⟩

set_option maxRecDepth 100000 in
set_option maxHeartbeats 400000 in
theorem storeFold_bad (base bs : Nat) (ks : List Int) (L : List (Nat × List (Int × ByteArray))) (sv fv : Value) (tcap : Nat) (ta : Option Addr) (T : List Tst) (c how : Int) (w : World) (h : StoreAt w base bs ks L sv fv) (hk : 0 < ks.length) (hT : TestsAt w ta T) (hf : (foldFault ks T c how).1 ≠ 0) :
    Calls Tryd.prog 34 #[.pointer (some ⟨bs, 0, none⟩), .slice ta T.length tcap, .int .i64 c, .int .i64 how] w fun e w' => ∃ eb, e = .returned (.tuple #[.agg #[.int .i64 0, .string ⟨#[]⟩], .int .i64 0, .iface 150 (.pointer (some ⟨eb, 0, none⟩))]) ∧ InnerErr w' (.iface 150 (.pointer (some ⟨eb, 0, none⟩))) (foldFault ks T c how).1 (foldFault ks T c how).2 ∧ Below w.heap.size w w' := by
  obtain ⟨sc, scap, rfl, hkin, _, _, _⟩ := h.kinds hk
  have hbs : bs < w.heap.size := (Array.getElem?_eq_some_iff.1 h.blk).1
  have hsc : sc < w.heap.size := hkin.lt hk
  have c0 : w.cell? ⟨bs, 0, none⟩ = some (.slice (some ⟨sc, 0, none⟩) ks.length scap) := by rw [cell_of_row _ _ _ _ _ _ h.blk]; rfl
  have B0 : ∀ o1 o2, Below w.heap.size w ((w.alloc o1).alloc o2) := fun o1 o2 => ((Below.refl _ _).alloc (Nat.le_refl _) _).alloc (by simp) _
  have c0' : ∀ o1 o2, ((w.alloc o1).alloc o2).cell? ⟨bs, 0, none⟩ = some (.slice (some ⟨sc, 0, none⟩) ks.length scap) := fun o1 o2 => ((B0 o1 o2).cell (p := ⟨bs, 0, none⟩) hbs).trans c0
  have HB0 : Hid (∀ o1 o2, Below w.heap.size w ((w.alloc o1).alloc o2)) := B0
  have HK : Hid (KindsIn w sc ks) := hkin
  have HT : Hid (TestsAt w ta T) := hT
  clear B0 hkin hT h
  by_cases h0 : (testFault ks T).1 = 0
  · have hcb : colOK ks c how = false := by
      unfold foldFault at hf
      rw [if_neg (by simpa using h0)] at hf
      cases hc : colOK ks c how
      · rfl
      · rw [hc] at hf; simp at hf
    have HFF : Hid (foldFault ks T c how = (4, c)) := by unfold foldFault Hid; rw [if_neg (by simpa using h0), hcb]; rfl
    have HV : Hid (ValidT ks T) := testFault_ok ks T h0
    have HCB : Hid (colOK ks c how = false) := hcb
    rw [HFF.out]
    clear hf hcb h0
    go_enter Tryd.func34, Tryd.ntmps34
    go_wp2_with fail
    refine (sieveNew_ok sc scap tcap ta ks T _ hk (HK.out.keep ((HB0.out _ _).block sc hsc)) (HT.out.keep (fun j hj => (HB0.out _ _).block j hj)) HV.out).mono ?_
    rintro e w1 ⟨rfl, hb1⟩
    have s1 := hb1.size
    simp at s1
    have rb1 : w1.heap[w.heap.size + 1]? = some (.cells #[.int .i64 0, .string ⟨#[]⟩] 30 (0, 0)) := (hb1.block _ (by simp)).trans (new_second w _ _)
    have ab1 : w1.heap[w.heap.size]? = some (.cells #[.int .i64 c] 3 (0, 0)) := (hb1.block _ (by simp; omega)).trans ((Below.heap_alloc _ _ _ (by simp)).trans (heap_alloc_new w _))
    have BW : Below w.heap.size w w1 := (HB0.out _ _).trans (hb1.mono (by simp; omega))
    have v0 : ∀ o, (w1.alloc o).cell? ⟨bs, 0, none⟩ = some (Value.slice (some ⟨sc, 0, none⟩) ks.length scap) := fun o => ((BW.alloc (by omega) o).cell (p := ⟨bs, 0, none⟩) hbs).trans c0
    have v1 : ∀ o, (w1.alloc o).cell? ⟨w.heap.size, 0, none⟩ = some (.int .i64 c) := fun o => (cell_alloc w1 _ _ _ (by omega)).trans (by rw [cell_of_row _ _ _ _ _ _ ab1]; rfl)
    have HRB : Hid (w1.heap[w.heap.size + 1]? = some (.cells #[.int .i64 0, .string ⟨#[]⟩] 30 (0, 0))) := rb1
    have HBW : Hid (Below w.heap.size w w1) := BW
    have n1 : ¬ w1.heap.size + 1 = bs := by omega
    have n2 : ¬ w1.heap.size + 1 = w.heap.size := by omega
    have n3 : ¬ bs = w1.heap.size + 1 := by omega
    have n4 : ¬ w.heap.size = w1.heap.size + 1 := by omega
    clear c0 c0' hb1 ab1 rb1 BW
    go_wp2_with fail
    go_region_held3 (fun w' => w'.cell? ⟨bs, 0, none⟩ = some (Value.slice (some ⟨sc, 0, none⟩) ks.length scap) ∧ w'.cell? ⟨w.heap.size, 0, none⟩ = some (.int .i64 c)) (go_keep)
      (first
        | (go_at_call 50; refine (tallyNew_bad sc scap ks c how _ (HK.out.keep (by first | exact (HBW.out.alloc (by omega) _).block sc hsc | exact ((HBW.out.alloc (by omega) _).alloc (by simp; omega) _).block sc hsc)) HCB.out).mono ?_; rintro e w2 ⟨eb, rfl, hin2, hb2⟩
           have y0 : w2.cell? ⟨bs, 0, none⟩ = some (Value.slice (some ⟨sc, 0, none⟩) ks.length scap) := (hb2.cell (p := ⟨bs, 0, none⟩) (by simp; omega)).trans (by first | exact v0 _ | exact (cell_alloc _ _ _ _ (by simp; omega)).trans (v0 _))
           have y1 : w2.cell? ⟨w.heap.size, 0, none⟩ = some (.int .i64 c) := (hb2.cell (p := ⟨w.heap.size, 0, none⟩) (by simp; omega)).trans (by first | exact v1 _ | exact (cell_alloc _ _ _ _ (by simp; omega)).trans (v1 _))
           have hbx : w2.heap[w.heap.size + 1]? = some (.cells #[.int .i64 0, .string ⟨#[]⟩] 30 (0, 0)) := (hb2.block _ (by simp; omega)).trans (by first | exact (Below.heap_alloc _ _ _ (by omega)).trans HRB.out | exact (Below.heap_alloc _ _ _ (by simp; omega)).trans ((Below.heap_alloc _ _ _ (by omega)).trans HRB.out))
           have s2 := hb2.size
           simp at s2
           have HX : Hid (w2.heap[w.heap.size + 1]? = some (.cells #[.int .i64 0, .string ⟨#[]⟩] 30 (0, 0))) := hbx
           have HI : Hid (InnerErr w2 (.iface 150 (.pointer (some ⟨eb, 0, none⟩))) 4 c) := hin2
           have HB2 : Hid (Below w.heap.size w w2) := by first | exact (HBW.out.alloc (by omega) _).trans (hb2.mono (by simp; omega)) | exact ((HBW.out.alloc (by omega) _).alloc (by simp; omega) _).trans (hb2.mono (by simp; omega)) | exact ((HBW.out.alloc (by omega) _).drew).trans (hb2.mono (by simp; omega)) | exact (((HBW.out.alloc (by omega) _).alloc (by simp; omega) _).drew).trans (hb2.mono (by simp; omega))
           clear hbx hin2
           first
             | (have mb : w2.heap[w1.heap.size + 1]? = some (.cells #[.pointer none] 104 (0, 0)) := (hb2.block (w1.heap.size + 1) (by simp)).trans (new_second w1 _ _)
                have mc : w2.cell? ⟨w1.heap.size + 1, 0, none⟩ = some (.pointer none) := by rw [cell_of_row _ _ _ _ _ _ mb]; rfl
                have mf : w2.frozen? ⟨w1.heap.size + 1, 0, none⟩ = false := by simp [World.frozen?, mb]
                have HM : Hid (w2.heap[w1.heap.size + 1]? = some (.cells #[.pointer none] 104 (0, 0))) := mb
                clear mb)
             | skip))
    · have IW := HI.out.below ((Below.refl _ _).alloc (Nat.le_refl _) (.cells #[.pointer none] 104))
      have XW := (Below.heap_alloc w2 (.cells #[.pointer none] 104) (w.heap.size + 1) (by omega)).trans HX.out
      have BB := HB2.out.alloc (by omega) (.cells #[.pointer none] 104)
      clear y0 y1 HX HI HB2 v0 v1
      generalize w2.alloc (.cells #[.pointer none] 104) = W at *
      have k0 : W.cell? ⟨w.heap.size + 1, 0, none⟩ = some (.int .i64 0) := by rw [cell_of_row _ _ _ _ _ _ XW]; rfl
      have g0 : W.frozen? ⟨w.heap.size + 1, 0, none⟩ = false := by simp [World.frozen?, XW]
      have k1 : ∀ u, (W.setCell ⟨w.heap.size + 1, 0, none⟩ u).cell? ⟨w.heap.size + 1, 1, none⟩ = some (.string ⟨#[]⟩) := fun u => by rw [cell_of_row _ _ _ _ _ _ (heap_setCell_same _ _ _ _ _ _ XW)]; rfl
      have g1 : ∀ u, (W.setCell ⟨w.heap.size + 1, 0, none⟩ u).frozen? ⟨w.heap.size + 1, 1, none⟩ = false := fun u => by simp [World.frozen?, heap_setCell_same _ _ _ _ _ _ XW]
      have b1 : W.cell? ⟨w.heap.size + 1, 1, none⟩ = some (.string ⟨#[]⟩) := by rw [cell_of_row _ _ _ _ _ _ XW]; rfl
      have HE : Hid (InnerErr ((W.setCell ⟨w.heap.size + 1, 0, none⟩ (.int .i64 0)).setCell ⟨w.heap.size + 1, 1, none⟩ (.string ⟨#[]⟩)) (.iface 150 (.pointer (some ⟨eb, 0, none⟩))) 4 c) := IW.setText b1 _ _
      have HXW : Hid (W.heap[w.heap.size + 1]? = some (.cells #[.int .i64 0, .string ⟨#[]⟩] 30 (0, 0))) := XW
      have HBB : Hid (Below w.heap.size w W) := BB
      clear IW XW BB b1
      go_wp2
      have hX : ((W.setCell ⟨w.heap.size + 1, 0, none⟩ (.int .i64 0)).setCell ⟨w.heap.size + 1, 1, none⟩ (.string ⟨#[]⟩)).heap[w.heap.size + 1]? = some (.cells #[.int .i64 0, .string ⟨#[]⟩] 30 (0, 0)) := heap_setCell_same _ _ _ _ _ _ (heap_setCell_same _ _ _ _ _ _ HXW.out)
      have x0 : ((W.setCell ⟨w.heap.size + 1, 0, none⟩ (.int .i64 0)).setCell ⟨w.heap.size + 1, 1, none⟩ (.string ⟨#[]⟩)).cell? ⟨w.heap.size + 1, 0, none⟩ = some (.int .i64 0) := by rw [cell_of_row _ _ _ _ _ _ hX]; rfl
      have x1 : ((W.setCell ⟨w.heap.size + 1, 0, none⟩ (.int .i64 0)).setCell ⟨w.heap.size + 1, 1, none⟩ (.string ⟨#[]⟩)).cell? ⟨w.heap.size + 1, 1, none⟩ = some (.string ⟨#[]⟩) := by rw [cell_of_row _ _ _ _ _ _ hX]; rfl
      refine bodyPost_ret (v := .tuple #[.agg #[.int .i64 0, .string ⟨#[]⟩], .int .i64 0, .iface 150 (.pointer (some ⟨eb, 0, none⟩))]) (by simp [results, Tryd.results34, go_sem, x0, x1]) rfl ⟨eb, rfl, HE.out, ?_⟩
      exact (HBB.out.setCell (p := ⟨w.heap.size + 1, 0, none⟩) (by simp) _).setCell (p := ⟨w.heap.size + 1, 1, none⟩) (by simp) _
    · have IW := HI.out.setOne HM.out (.pointer none)
      have XW : (w2.setCell ⟨w1.heap.size + 1, 0, none⟩ (.pointer none)).heap[w.heap.size + 1]? = _ := (heap_setCell_other _ _ _ _ (show ¬ w.heap.size + 1 = w1.heap.size + 1 by omega)).trans HX.out
      have BB := HB2.out.setCell (p := ⟨w1.heap.size + 1, 0, none⟩) (by simp; omega) (.pointer none)
      clear y0 y1 HX HI HB2 HM v0 v1 mc mf
      generalize w2.setCell ⟨w1.heap.size + 1, 0, none⟩ (.pointer none) = W at *
      have k0 : W.cell? ⟨w.heap.size + 1, 0, none⟩ = some (.int .i64 0) := by rw [cell_of_row _ _ _ _ _ _ XW]; rfl
      have g0 : W.frozen? ⟨w.heap.size + 1, 0, none⟩ = false := by simp [World.frozen?, XW]
      have k1 : ∀ u, (W.setCell ⟨w.heap.size + 1, 0, none⟩ u).cell? ⟨w.heap.size + 1, 1, none⟩ = some (.string ⟨#[]⟩) := fun u => by rw [cell_of_row _ _ _ _ _ _ (heap_setCell_same _ _ _ _ _ _ XW)]; rfl
      have g1 : ∀ u, (W.setCell ⟨w.heap.size + 1, 0, none⟩ u).frozen? ⟨w.heap.size + 1, 1, none⟩ = false := fun u => by simp [World.frozen?, heap_setCell_same _ _ _ _ _ _ XW]
      have b1 : W.cell? ⟨w.heap.size + 1, 1, none⟩ = some (.string ⟨#[]⟩) := by rw [cell_of_row _ _ _ _ _ _ XW]; rfl
      have HE : Hid (InnerErr ((W.setCell ⟨w.heap.size + 1, 0, none⟩ (.int .i64 0)).setCell ⟨w.heap.size + 1, 1, none⟩ (.string ⟨#[]⟩)) (.iface 150 (.pointer (some ⟨eb, 0, none⟩))) 4 c) := IW.setText b1 _ _
      have HXW : Hid (W.heap[w.heap.size + 1]? = some (.cells #[.int .i64 0, .string ⟨#[]⟩] 30 (0, 0))) := XW
      have HBB : Hid (Below w.heap.size w W) := BB
      clear IW XW BB b1
      go_wp2
      have hX : ((W.setCell ⟨w.heap.size + 1, 0, none⟩ (.int .i64 0)).setCell ⟨w.heap.size + 1, 1, none⟩ (.string ⟨#[]⟩)).heap[w.heap.size + 1]? = some (.cells #[.int .i64 0, .string ⟨#[]⟩] 30 (0, 0)) := heap_setCell_same _ _ _ _ _ _ (heap_setCell_same _ _ _ _ _ _ HXW.out)
      have x0 : ((W.setCell ⟨w.heap.size + 1, 0, none⟩ (.int .i64 0)).setCell ⟨w.heap.size + 1, 1, none⟩ (.string ⟨#[]⟩)).cell? ⟨w.heap.size + 1, 0, none⟩ = some (.int .i64 0) := by rw [cell_of_row _ _ _ _ _ _ hX]; rfl
      have x1 : ((W.setCell ⟨w.heap.size + 1, 0, none⟩ (.int .i64 0)).setCell ⟨w.heap.size + 1, 1, none⟩ (.string ⟨#[]⟩)).cell? ⟨w.heap.size + 1, 1, none⟩ = some (.string ⟨#[]⟩) := by rw [cell_of_row _ _ _ _ _ _ hX]; rfl
      refine bodyPost_ret (v := .tuple #[.agg #[.int .i64 0, .string ⟨#[]⟩], .int .i64 0, .iface 150 (.pointer (some ⟨eb, 0, none⟩))]) (by simp [results, Tryd.results34, go_sem, x0, x1]) rfl ⟨eb, rfl, HE.out, ?_⟩
      exact (HBB.out.setCell (p := ⟨w.heap.size + 1, 0, none⟩) (by simp) _).setCell (p := ⟨w.heap.size + 1, 1, none⟩) (by simp) _
  · have HFF : Hid (foldFault ks T c how = (3, (testFault ks T).2)) := by unfold foldFault Hid; rw [if_pos h0]
    rw [HFF.out]
    clear hf
    go_enter Tryd.func34, Tryd.ntmps34
    go_wp2_with fail
    refine (sieveNew_bad sc scap tcap ta ks T _ hk (HK.out.keep ((HB0.out _ _).block sc hsc)) (HT.out.keep (fun j hj => (HB0.out _ _).block j hj)) h0).mono ?_
    rintro e w1 ⟨eb, rfl, hin1, hb1⟩
    have s1 := hb1.size
    simp at s1
    have rb1 : w1.heap[w.heap.size + 1]? = some (.cells #[.int .i64 0, .string ⟨#[]⟩] 30 (0, 0)) := (hb1.block _ (by simp)).trans (new_second w _ _)
    have BW : Below w.heap.size w w1 := (HB0.out _ _).trans (hb1.mono (by simp; omega))
    have HIN : Hid (InnerErr w1 (.iface 150 (.pointer (some ⟨eb, 0, none⟩))) 3 (testFault ks T).2) := hin1
    clear c0 c0' hb1 h0 hin1
    have hra : ∀ o, (w1.alloc o).heap[w.heap.size + 1]? = some (.cells #[.int .i64 0, .string ⟨#[]⟩] 30 (0, 0)) := fun o => (Below.heap_alloc _ _ _ (by omega)).trans rb1
    have hrb : ∀ u o, ((w1.setCell ⟨w.heap.size + 1, 0, none⟩ u).alloc o).heap[w.heap.size + 1]? = some (.cells #[u, .string ⟨#[]⟩] 30 (0, 0)) := fun u o => (Below.heap_alloc _ _ _ (by simp [World.setCell]; omega)).trans (heap_setCell_same _ _ _ _ _ _ rb1)
    have r0 : ∀ o, (w1.alloc o).cell? ⟨w.heap.size + 1, 0, none⟩ = some (.int .i64 0) := fun o => by rw [cell_of_row _ _ _ _ _ _ (hra o)]; rfl
    have g0 : ∀ o, (w1.alloc o).frozen? ⟨w.heap.size + 1, 0, none⟩ = false := fun o => by simp [World.frozen?, hra o]
    have r1 : ∀ u o, ((w1.setCell ⟨w.heap.size + 1, 0, none⟩ u).alloc o).cell? ⟨w.heap.size + 1, 1, none⟩ = some (.string ⟨#[]⟩) := fun u o => by rw [cell_of_row _ _ _ _ _ _ (hrb u o)]; rfl
    have g1 : ∀ u o, ((w1.setCell ⟨w.heap.size + 1, 0, none⟩ u).alloc o).frozen? ⟨w.heap.size + 1, 1, none⟩ = false := fun u o => by simp [World.frozen?, hrb u o]
    have hne : ¬ w1.heap.size = w.heap.size + 1 := by omega
    have hne2 : ¬ w.heap.size + 1 = w1.heap.size := by omega
    have hlt1 : w.heap.size + 1 < w1.heap.size := by omega
    have HRB : Hid (w1.heap[w.heap.size + 1]? = some (.cells #[.int .i64 0, .string ⟨#[]⟩] 30 (0, 0))) := rb1
    clear rb1 hra hrb
    go_wp2
    have hX : (((w1.setCell ⟨w.heap.size + 1, 0, none⟩ (.int .i64 0)).setCell ⟨w.heap.size + 1, 1, none⟩ (.string ⟨#[]⟩)).alloc (.cells #[.slice none 0 0, .slice none 0 0] 92)).heap[w.heap.size + 1]? = some (.cells #[.int .i64 0, .string ⟨#[]⟩] 30 (0, 0)) := (Below.heap_alloc _ _ _ (by simp [World.setCell]; omega)).trans (heap_setCell_same _ _ _ _ _ _ (heap_setCell_same _ _ _ _ _ _ HRB.out))
    have x0 : (((w1.setCell ⟨w.heap.size + 1, 0, none⟩ (.int .i64 0)).setCell ⟨w.heap.size + 1, 1, none⟩ (.string ⟨#[]⟩)).alloc (.cells #[.slice none 0 0, .slice none 0 0] 92)).cell? ⟨w.heap.size + 1, 0, none⟩ = some (.int .i64 0) := by rw [cell_of_row _ _ _ _ _ _ hX]; rfl
    have x1 : (((w1.setCell ⟨w.heap.size + 1, 0, none⟩ (.int .i64 0)).setCell ⟨w.heap.size + 1, 1, none⟩ (.string ⟨#[]⟩)).alloc (.cells #[.slice none 0 0, .slice none 0 0] 92)).cell? ⟨w.heap.size + 1, 1, none⟩ = some (.string ⟨#[]⟩) := by rw [cell_of_row _ _ _ _ _ _ hX]; rfl
    have b1 : w1.cell? ⟨w.heap.size + 1, 1, none⟩ = some (.string ⟨#[]⟩) := by rw [cell_of_row _ _ _ _ _ _ HRB.out]; rfl
    refine bodyPost_ret (v := .tuple #[.agg #[.int .i64 0, .string ⟨#[]⟩], .int .i64 0, .iface 150 (.pointer (some ⟨eb, 0, none⟩))]) (by simp [results, Tryd.results34, go_sem, x0, x1]) rfl ⟨eb, rfl, (HIN.out.setText b1 _ _).below ((Below.refl _ _).alloc (Nat.le_refl _) _), ?_⟩
    exact ((BW.setCell (p := ⟨w.heap.size + 1, 0, none⟩) (by simp) _).setCell (p := ⟨w.heap.size + 1, 1, none⟩) (by simp) _).alloc (by simp [World.setCell]; omega) _

set_option maxRecDepth 100000 in
set_option maxHeartbeats 1000000 in
theorem fold_bad (base bt bs : Nat) (ks : List Int) (L : List (Nat × List (Int × ByteArray))) (sv fv : Value) (tcap : Nat) (ta : Option Addr) (T : List Tst) (c how : Int) (w : World) (hgt : ErrType w) (h : TableAt w base bt bs ks L sv fv) (hk : 0 < ks.length) (hT : TestsAt w ta T) (hf : (foldFault ks T c how).1 ≠ 0) :
    Calls Tryd.prog 17 #[.pointer (some ⟨bt, 0, none⟩), .slice ta T.length tcap, .int .i64 c, .int .i64 how] w fun e w' => ∃ fb, e = .returned (.tuple #[.agg #[.int .i64 0, .string ⟨#[]⟩], .int .i64 0, .iface 100 (.pointer (some ⟨fb, 0, none⟩))]) ∧ FaultAt w' (.iface 100 (.pointer (some ⟨fb, 0, none⟩))) (foldFault ks T c how).1 (foldFault ks T c how).2 ∧ Below w.heap.size w w' := by
  have hbt : bt < w.heap.size := (Array.getElem?_eq_some_iff.1 h.tab).1
  have BA : ∀ o, Below w.heap.size w (w.alloc o) := fun o => (Below.refl _ _).alloc (Nat.le_refl _) _
  have c0 : ∀ o, (w.alloc o).cell? ⟨bt, 0, none⟩ = some (.pointer (some ⟨bs, 0, none⟩)) := fun o => (cell_alloc w o _ _ hbt).trans (by rw [cell_of_row _ _ _ _ _ _ h.tab]; rfl)
  have HS : Hid (∀ o, StoreAt (w.alloc o) base bs ks L sv fv) := fun o => h.sto.below (BA o)
  have HT : Hid (∀ o, TestsAt (w.alloc o) ta T) := fun o => hT.keep (fun j hj => (BA o).block j hj)
  have HF : Hid ((foldFault ks T c how).1 ≠ 0) := hf
  have hmx : Tryd.prog.follows .mixedOrders = true := by kernel_rfl
  obtain ⟨fk, hfk⟩ : ∃ fk, fk = foldFault ks T c how := ⟨_, rfl⟩
  have HK : Hid (fk = foldFault ks T c how) := hfk
  rw [← hfk]
  clear h hT BA hf hfk
  go_enter Tryd.func17, Tryd.ntmps17
  go_wp2_with fail
  refine (storeFold_bad base bs ks L sv fv tcap ta T c how _ (HS.out _) hk (HT.out _) HF.out).mono ?_
  rintro e w1 ⟨eb, rfl, hin1, hb1⟩
  rw [← HK.out] at hin1
  have s1 := hb1.size
  simp at s1
  have RB : Hid (w1.heap[w.heap.size]? = some (.cells #[.int .i64 0, .string ⟨#[]⟩] 30 (0, 0))) := (hb1.block _ (by simp)).trans (heap_alloc_new w _)
  have B1 : Below w.heap.size w w1 := ((Below.refl _ _).alloc (Nat.le_refl _) _).trans (hb1.mono (by simp))
  have HE1 : Hid (ErrType w1) := hgt.below B1
  have HIN : Hid (InnerErr w1 (.iface 150 (.pointer (some ⟨eb, 0, none⟩))) fk.1 fk.2) := hin1
  clear hb1 c0 hin1
  go_wp2_with fail
  go_region_with
    (first
      | (go_at_call 30; refine (faultIn_err _ _ _ _ (HE1.out.below (((Below.refl _ _).alloc (Nat.le_refl _) _).drew)) (HIN.out.below (((Below.refl _ _).alloc (Nat.le_refl _) _).drew))).mono ?_; rintro e w2 ⟨fb, rfl, hfa, hb2⟩
         have s2 := hb2.size
         have hrb : w2.heap[w.heap.size]? = some (.cells #[.int .i64 0, .string ⟨#[]⟩] 30 (0, 0)) := (hb2.block _ (by simp; omega)).trans ((Below.heap_alloc _ _ _ (by omega)).trans RB.out)
         have hvb : w2.heap[w1.heap.size]? = some (.cells #[.int .i64 0, .string ⟨#[]⟩] 30 (0, 0)) := (hb2.block _ (by simp)).trans (heap_alloc_new w1 _)
         have r0 : w2.cell? ⟨w.heap.size, 0, none⟩ = some (.int .i64 0) := by rw [cell_of_row _ _ _ _ _ _ hrb]; rfl
         have g0 : w2.frozen? ⟨w.heap.size, 0, none⟩ = false := by simp [World.frozen?, hrb]
         have r1 : ∀ u, (w2.setCell ⟨w.heap.size, 0, none⟩ u).cell? ⟨w.heap.size, 1, none⟩ = some (.string ⟨#[]⟩) := fun u => by rw [cell_of_row _ _ _ _ _ _ (heap_setCell_same _ _ _ _ _ _ hrb)]; rfl
         have g1 : ∀ u, (w2.setCell ⟨w.heap.size, 0, none⟩ u).frozen? ⟨w.heap.size, 1, none⟩ = false := fun u => by simp [World.frozen?, heap_setCell_same _ _ _ _ _ _ hrb]
         have q0 : w2.cell? ⟨w1.heap.size, 0, none⟩ = some (.int .i64 0) := by rw [cell_of_row _ _ _ _ _ _ hvb]; rfl
         have q1 : w2.cell? ⟨w1.heap.size, 1, none⟩ = some (.string ⟨#[]⟩) := by rw [cell_of_row _ _ _ _ _ _ hvb]; rfl
         have HRB : Hid (w2.heap[w.heap.size]? = some (.cells #[.int .i64 0, .string ⟨#[]⟩] 30 (0, 0))) := hrb
         have HFA : Hid (FaultAt w2 (.iface 100 (.pointer (some ⟨fb, 0, none⟩))) fk.1 fk.2) := hfa
         clear hrb hvb hfa))
  all_goals
    go_wp2
    have hX : ((w2.setCell ⟨w.heap.size, 0, none⟩ (.int .i64 0)).setCell ⟨w.heap.size, 1, none⟩ (.string ⟨#[]⟩)).heap[w.heap.size]? = some (.cells #[.int .i64 0, .string ⟨#[]⟩] 30 (0, 0)) := heap_setCell_same _ _ _ _ _ _ (heap_setCell_same _ _ _ _ _ _ HRB.out)
    have x0 : ((w2.setCell ⟨w.heap.size, 0, none⟩ (.int .i64 0)).setCell ⟨w.heap.size, 1, none⟩ (.string ⟨#[]⟩)).cell? ⟨w.heap.size, 0, none⟩ = some (.int .i64 0) := by rw [cell_of_row _ _ _ _ _ _ hX]; rfl
    have x1 : ((w2.setCell ⟨w.heap.size, 0, none⟩ (.int .i64 0)).setCell ⟨w.heap.size, 1, none⟩ (.string ⟨#[]⟩)).cell? ⟨w.heap.size, 1, none⟩ = some (.string ⟨#[]⟩) := by rw [cell_of_row _ _ _ _ _ _ hX]; rfl
    have b1 : w2.cell? ⟨w.heap.size, 1, none⟩ = some (.string ⟨#[]⟩) := by rw [cell_of_row _ _ _ _ _ _ HRB.out]; rfl
    refine bodyPost_ret (v := .tuple #[.agg #[.int .i64 0, .string ⟨#[]⟩], .int .i64 0, .iface 100 (.pointer (some ⟨fb, 0, none⟩))]) (by simp [results, Tryd.results17, go_sem, x0, x1]) rfl ⟨fb, rfl, HFA.out.setText b1 _ _, ?_⟩
    exact Below.setCell (p := ⟨w.heap.size, 1, none⟩) (Below.setCell (p := ⟨w.heap.size, 0, none⟩) (((B1.alloc (by omega) _).drew).trans (hb2.mono (by simp; omega))) (by simp) _) (by simp) _

end Go.Proofs.YtcconhgbefhdeaaDoor
