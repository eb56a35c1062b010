import Derived.Test.YtcconhgbefhdeaaDoorStp2
namespace Go.Proofs.YtcconhgbefhdeaaDoor
open Go.RowKit

/-- A step of the script, as it lies in memory. -/
structure OpM where
  kind : Int
  at' : Int
  col : Int
  n : Int
  many : Int
  sa : Option Addr
  sc : Nat
  ks : List Int
  ra : Option Addr
  rc : Nat
  r : List (Int × ByteArray)
  ta : Option Addr
  tc : Nat
  T : List Tst

def OpM.cells (o : OpM) : Array Value := #[.int .i64 o.kind, .int .i64 o.at', .int .i64 o.col, .int .i64 o.n, .slice o.sa o.ks.length o.sc, .slice o.ra o.r.length o.rc, .slice o.ta o.T.length o.tc, .int .i64 o.many]

structure OpOK (w : World) (o : OpM) : Prop where
  ks : KindsA w o.sa o.ks
  row : RowA w o.ra o.r
  tests : TestsA w o.ta o.T
  lk : o.ks.length ≤ 9000000
  lr : o.r.length ≤ 9000000
  lt : o.T.length ≤ 9000000
  rg : RowRg o.r
  tg : TstRg o.T
  kin : -9223372036854775808 ≤ o.kind ∧ o.kind ≤ 9223372036854775807
  ain : -9223372036854775808 ≤ o.at' ∧ o.at' ≤ 9223372036854775807
  min : -9223372036854775808 ≤ o.many ∧ o.many ≤ 9223372036854775807

/-- How the World stands between two steps: all that was there ahead of the script is as it was. -/
def PlayAt (w0 : World) (wb s : Nat) (w : World) : Prop := ∃ col Ts, WorldOK w wb col Ts s ∧ 0 < Ts.length ∧ (∀ b, b < w0.heap.size → col b = 0) ∧ FrS (fun _ => False) w0 w

theorem PlayAt.same {w0 w w' : World} {wb s : Nat} (h : PlayAt w0 wb s w) (hF : FrS (fun _ => False) w w') : PlayAt w0 wb s w' := by
  obtain ⟨col, Ts, a1, a2, a3, a4⟩ := h
  have z := a4.size
  exact ⟨_, Ts, a1.same (Nat.le_refl s) hF, a2, fun b hb => by show (if b < w.heap.size then col b else 0) = 0; rw [if_pos (by omega)]; exact a3 b hb, a4.trans hF (fun _ h => h.elim)⟩

theorem PlayAt.up {w0 w w' : World} {wb s s' : Nat} (h : PlayAt w0 wb s w) (hs : s ≤ s') (hF : FrS (fun _ => False) w w') : PlayAt w0 wb s' w' := by
  obtain ⟨col, Ts, a1, a2, a3, a4⟩ := h
  have z := a4.size
  exact ⟨_, Ts, a1.same hs hF, a2, fun b hb => by show (if b < w.heap.size then col b else 0) = 0; rw [if_pos (by omega)]; exact a3 b hb, a4.trans hF (fun _ h => h.elim)⟩

theorem PlayAt.next {w0 w w' : World} {wb s : Nat} {col col' : Nat → Nat} {Ts' : List Tbl} (a3 : ∀ b, b < w0.heap.size → col b = 0) (a4 : FrS (fun _ => False) w0 w) (h1 : WorldOK w' wb col' Ts' (s + 1)) (h2 : 0 < Ts'.length) (h3 : ∀ b, b < w.heap.size → col' b = col b) (h4 : FrS (fun b => col b ≠ 0) w w') : PlayAt w0 wb (s + 1) w' := by
  have z := a4.size
  refine ⟨col', Ts', h1, h2, fun b hb => (h3 b (by omega)).trans (a3 b hb), ?_⟩
  refine ⟨h4.os.trans a4.os, h4.tape.trans a4.tape, h4.output.trans a4.output, by have := h4.size; omega, fun b hb _ => ?_⟩
  exact (h4.block b (by omega) (by simp [a3 b hb])).trans (a4.block b hb (fun h => h))

theorem play_made {w0 w : World} {wb s : Nat} (h : PlayAt w0 wb s w) (hE : ErrType w0) (hs : s ≤ 9000000) {sa : Option Addr} {ks : List Int} (cap : Nat) (hk : KindsA w0 sa ks) (hl : ks.length ≤ 9000000) :
    Calls Tryd.prog 19 #[.pointer (some ⟨wb, 0, none⟩), .slice sa ks.length cap] w fun e w' => e = .returned (.bool true) ∧ PlayAt w0 wb (s + 1) w' := by
  obtain ⟨col, Ts, a1, a2, a3, a4⟩ := h
  have hE' : ErrType w := hE.keep (a4.block 0 hE.lt (fun h => h))
  have hk' : KindsA w sa ks := hk.keep (fun k hk => a4.block k hk (fun h => h))
  by_cases hf : (schemaFault ks).1 = 0
  · refine (made_good wb col Ts s ks sa cap w hE' a1 hs hk' hl hf).mono ?_
    rintro e w' ⟨rfl, col', bt, br, h1, h2, h3⟩
    rw [if_pos hf] at h1
    exact ⟨rfl, PlayAt.next a3 a4 h1 (by simp) h2 h3⟩
  · refine (made_bad wb col Ts s ks sa cap w hE' a1 hk' hl hf).mono ?_
    rintro e w' ⟨rfl, col', bt, br, h1, h2, h3⟩
    rw [if_neg hf] at h1
    exact ⟨rfl, PlayAt.next a3 a4 h1 a2 h2 h3⟩

theorem own_at {w : World} {base : Nat} {e : TypeId} {v : Value} {n : Nat} {xs : List Value} (h : w.ownsRow base e 1 v n xs) (hn : 0 < n) : ∃ g cp, v = .slice (some ⟨g, 0, none⟩) n cp ∧ ∀ k (hk : k < xs.length), w.cell? ⟨g, k, none⟩ = some xs[k] := by
  obtain ⟨g, cap, hv, _, _⟩ := h.form hn
  refine ⟨g, cap, hv, fun k hk => ?_⟩
  have := h.cells (g := g) (by rw [hv]; rfl) k xs[k] (by simp [hk])
  have hadd : (⟨g, 0, none⟩ : Addr).add k = ⟨g, k, none⟩ := by unfold Addr.add; split <;> simp_all
  rw [hadd] at this
  exact this

/-- A table that a step is on. -/
theorem play_tabs {w0 w : World} {wb s : Nat} (h : PlayAt w0 wb s w) (hE : ErrType w0) (hs : s ≤ 9000000) : ∃ N tg tc rg rc, 0 < N ∧ N ≤ s + 1 ∧ w.cell? ⟨wb, 0, none⟩ = some (.slice (some ⟨tg, 0, none⟩) N tc) ∧ w.cell? ⟨wb, 1, none⟩ = some (.slice (some ⟨rg, 0, none⟩) N rc) ∧ ∀ n, n < N → ∃ bt br, w.cell? ⟨tg, n, none⟩ = some (.pointer (some ⟨bt, 0, none⟩)) ∧ w.cell? ⟨rg, n, none⟩ = some (.pointer (some ⟨br, 0, none⟩)) ∧
    ∀ o : OpM, OpOK w0 o → (o.kind = 2 ∨ o.kind = 3) → ∀ W, FrS (fun _ => False) w W → Calls Tryd.prog 22 #[.pointer (some ⟨wb, 0, none⟩), .pointer (some ⟨bt, 0, none⟩), .pointer (some ⟨br, 0, none⟩), .agg o.cells] W fun e w' => e = .returned (.bool true) ∧ PlayAt w0 wb (s + 1) w' ∧ BookSame wb W w' ∧ (∀ b, w.heap.size ≤ b → b < W.heap.size → w'.heap[b]? = W.heap[b]?) := by
  obtain ⟨col, Ts, a1, a2, a3, a4⟩ := h
  obtain ⟨tv, rv, lv, ov, ls, rws, hb, _⟩ := a1.ex
  have c0 : w.cell? ⟨wb, 0, none⟩ = some tv := by rw [cell_of_row _ _ _ _ _ _ hb.blk]; rfl
  have c1 : w.cell? ⟨wb, 1, none⟩ = some rv := by rw [cell_of_row _ _ _ _ _ _ hb.blk]; rfl
  obtain ⟨tg, tc, htv, ht⟩ := own_at (hb.own 0 (by simp) (by simp)) (by simpa using a2)
  obtain ⟨rg, rc, hrv, hr⟩ := own_at (hb.own 1 (by simp) (by simp)) (by simpa using a2)
  simp only [List.getElem_cons_zero, List.getElem_cons_succ, List.length_map] at htv ht hrv hr
  subst htv hrv
  refine ⟨Ts.length, tg, tc, rg, rc, a2, by have := a1.few; omega, c0, c1, fun n hn => ⟨Ts[n].bt, Ts[n].br, ?_, ?_, fun o ho hk W hF => ?_⟩⟩
  · have := ht n hn; rw [this]; simp [Tbl.pt]
  · have := hr n hn; rw [this]; simp [Tbl.pr]
  · have a4' : FrS (fun _ => False) w0 W := a4.trans hF (fun _ h => h.elim)
    have z4 := a4.size
    have hW := a1.same (Nat.le_refl s) hF
    have a3' : ∀ b, b < w0.heap.size → (fun b => if b < w.heap.size then col b else 0) b = 0 := fun b hb => by show (if b < w.heap.size then col b else 0) = 0; rw [if_pos (by omega)]; exact a3 b hb
    have hE' : ErrType W := hE.keep (a4'.block 0 hE.lt (fun h => h))
    have key : ∀ e w', StepPost wb (fun b => if b < w.heap.size then col b else 0) s W e w' → e = .returned (.bool true) ∧ PlayAt w0 wb (s + 1) w' ∧ BookSame wb W w' ∧ (∀ b, w.heap.size ≤ b → b < W.heap.size → w'.heap[b]? = W.heap[b]?) := fun e w' hp => by
      obtain ⟨rfl, col', Ts', h1, h2, h3, h4, h5⟩ := hp
      exact ⟨rfl, PlayAt.next a3' a4' h1 h2 h3 h4, h5, fun b hb1 hb2 => h4.block b hb2 (by show ¬ (if b < w.heap.size then col b else 0) ≠ 0; rw [if_neg (by omega)]; simp)⟩
    rcases hk with hk | hk
    · have hst := step_append wb _ Ts s n hn o.at' o.col o.n o.many (.slice o.sa o.ks.length o.sc) (.slice o.ta o.T.length o.tc) o.ra o.rc o.r W hE' hW (a3' 0 hE.lt) (ho.row.keep (fun k hk => a4'.block k hk (fun h => h))) (fun h0 a ha => by
        rcases ho.row with e | ⟨g, zo, e, h2⟩
        · exact absurd e h0
        · rw [e] at ha; cases ha
          exact a3' g (h2.lt (by rcases Nat.eq_zero_or_pos o.r.length with h | h
                                 · exact absurd (List.eq_nil_of_length_eq_zero h) h0
                                 · exact h))) ho.rg ho.lr ho.min.1 ho.min.2
      rw [OpM.cells, hk]
      exact hst.mono key
    · have hst := step_scan wb _ Ts s n hn o.at' o.col o.n o.many o.sa o.ks.length o.sc o.ra o.r.length o.rc o.ta o.tc o.T W hE' hW hs (ho.tests.keep (fun k hk => a4'.block k hk (fun h => h))) ho.tg ho.lt
      rw [OpM.cells, hk]
      exact hst.mono key

theorem listIn_of_own {w : World} {base : Nat} {e : TypeId} {v : Value} {xs : List Value} (h : w.ownsRow base e 1 v xs.length xs) : ∃ a c, v = .slice a xs.length c ∧ ListIn w a xs := by
  by_cases h0 : 0 < xs.length
  · obtain ⟨g, cp, hv, hc⟩ := own_at h h0
    exact ⟨_, cp, hv, .inr ⟨g, rfl, hc⟩⟩
  · have e : xs = [] := List.eq_nil_of_length_eq_zero (by omega)
    rcases h.2 with ⟨h1, h2⟩ | ⟨gg, cp, _, h1, _⟩
    · exact ⟨none, 0, by rw [h1, h2], .inl e⟩
    · exact ⟨_, cp, h1, .inl e⟩

theorem play_still {w0 w : World} {wb s : Nat} (h : PlayAt w0 wb s w) (hs : s ≤ 100000000) : Calls Tryd.prog 23 #[.pointer (some ⟨wb, 0, none⟩)] w fun e w' => e = .returned (.bool true) ∧ w' = w := by
  obtain ⟨col, Ts, a1, a2, a3, a4⟩ := h
  obtain ⟨tv, rv, lv, ov, ls, rws, hb, _, kl, kr, _, _, lb, rb⟩ := a1.ex
  have c2 : w.cell? ⟨wb, 2, none⟩ = some lv := by rw [cell_of_row _ _ _ _ _ _ hb.blk]; rfl
  have c3 : w.cell? ⟨wb, 3, none⟩ = some ov := by rw [cell_of_row _ _ _ _ _ _ hb.blk]; rfl
  obtain ⟨la, lc, hlv, hl⟩ := listIn_of_own (hb.own 2 (by simp) (by simp))
  obtain ⟨ra, rc, hrv, hr⟩ := listIn_of_own (hb.own 3 (by simp) (by simp))
  simp only [List.getElem_cons_zero, List.getElem_cons_succ] at hlv hl hrv hr
  subst hlv hrv
  exact still_ok wb lc rc la ra ls rws _ w c2 c3 hl hr (by omega) (by omega) kl kr

end Go.Proofs.YtcconhgbefhdeaaDoor
