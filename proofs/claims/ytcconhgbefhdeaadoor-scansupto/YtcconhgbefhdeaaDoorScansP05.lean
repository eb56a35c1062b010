import Derived.Test.YtcconhgbefhdeaaDoorScansP04
import Derived.Test.YtcconhgbefhdeaaDoorScansP02
namespace Go.Proofs.YtcconhgbefhdeaaDoor
open Go.RowKit Go.Shelf

attribute [local go_sem] Oper.semAt_some

theorem rows_push {wr w3 w4 : World} {base : Nat} {v nv : Value} {M : List (Nat × List (Int × ByteArray))} {g' : Nat} {r : List (Int × ByteArray)} {o : Obj} (h : RowsAt wr base v M) (hb : Below wr.heap.size wr w3)
    (hblk : w3.heap[g']? = some (.cells (vcells r).toArray 30 (0, 0))) (hg' : wr.heap.size ≤ g') (hbase : base ≤ wr.heap.size)
    (hown : w4.ownsRow base 25 1 nv (M.length + 1) (M.map rval ++ [rval (g', r)])) (hgrow : (w3.alloc o).grownBy w4 v.ownBlock) : RowsAt w4 base nv (M ++ [(g', r)]) := by
  have hz := hb.size
  refine ⟨?_, fun p hp => ?_⟩
  · rw [List.length_append, List.map_append]; exact hown
  · rcases List.mem_append.1 hp with hp | hp
    · obtain ⟨h1, h2⟩ := h.blk p hp
      refine ⟨h1, ?_⟩
      unfold RowBlk at h2 ⊢
      have hlt : p.1 < wr.heap.size := (Array.getElem?_eq_some_iff.1 h2).1
      rw [hgrow.block p.1 (by simp; omega) ?_, Below.heap_alloc _ _ _ (by omega), hb.block _ hlt]
      · exact h2
      · intro e
        rcases h.own.2 with ⟨h3, _⟩ | ⟨gg, cp, cur, h3, _, h4, _⟩
        · rw [h3] at e; cases e
        · rw [h3] at e
          simp only [Value.ownBlock, Option.some.injEq] at e
          rw [← e, h2] at h4
          simp at h4
    · have e : p = (g', r) := by simpa using hp
      subst e
      refine ⟨by simp; omega, ?_⟩
      unfold RowBlk
      have hlt : g' < w3.heap.size := (Array.getElem?_eq_some_iff.1 hblk).1
      rw [hgrow.block g' (by simp; omega) ?_, Below.heap_alloc _ _ _ hlt]
      · exact hblk
      · intro e
        rcases h.own.lt g' e.symm with ⟨_, h2⟩
        omega

/-- An append whose run is known, at its place in a region. -/
theorem appendIn_step {F : Fence} {n : Nat} {P : Program} {w w' : World} {ops : Array Oper} {o : Oper} {a : Act} {K : Act → World → Prop} {Q : Exit → Act → World → Prop} {s x : Operand} {t : TypeId} {v xv v' : Value}
    (hg : o.guard = none) (hop : o.op = Op.call { callee := Callee.builtin Builtin.append, args := #[s, x], argTypes := #[t, t] }) (hs : a.eval s = v) (hx : a.eval x = xv)
    (hrun : (Builtin.append_ #[t, t] o.type #[v, xv]).run P w = .ok v' w') (hK : K (a.put o.dst v') w') :
    if Region.wanted o (yielded ops a.tmps) = true then Oper.wpIn F n P o a w K Q else (∀ f, o.about P w a.eval = some f → F.fn f) ∧ K (a.put o.dst undef) w := by
  have hw : Region.wanted o (yielded ops a.tmps) = true := by simp [Region.wanted, hg]
  rw [if_pos hw]
  refine ⟨?_, ?_⟩
  · simp [Oper.about, hop, resolve, Target.leads, Sem.run_pure]
  · rw [Oper.semAt_plain F _ _ (by rw [hop]; intro c hc; cases hc)]
    simp [execOp, hop, resolve, invoke, builtin, hs, hx, hrun, Result.andThen]
    exact hK

/-- The rows found so far, in the variable's box. -/
structure Found (n₀ B : Nat) (rs : List (List (Int × ByteArray))) (W : World) : Prop where
  ex : ∃ v M, Boxed W B 39 v ∧ RowsAt W n₀ v M ∧ (M.map Prod.fst).Nodup ∧ M.map Prod.snd = rs

theorem RowsAt.kept {W W' : World} {base : Nat} {v : Value} {M : List (Nat × List (Int × ByteArray))} (h : RowsAt W base v M) {row : Option Nat} (hg : W.grownBy W' row) (hr : ∀ r, row = some r → ∃ o : Obj, W.heap[r]? = some o ∧ o.isCells = false) : RowsAt W' base v M :=
  h.keepOn (fun k hk hx => hg.block k hk (fun e => by
    obtain ⟨o, ho, hc⟩ := hr k e.symm
    rcases hx with hx | ⟨p, hp, hx⟩
    · rcases h.own.2 with ⟨h3, _⟩ | ⟨gg, cp, cur, h3, _, h4, _⟩
      · rw [h3] at hx; cases hx
      · rw [h3] at hx
        simp only [Value.ownBlock, Option.some.injEq] at hx
        rw [← hx, h4] at ho; cases ho; cases hc
    · have := (h.blk p hp).2
      unfold RowBlk at this
      rw [hx, ho] at this
      cases this; cases hc))

theorem found_own (n₀ B : Nat) {β : Type} (f : β → List (List (Int × ByteArray))) : Own (fun s W => Found n₀ B (f s) W) := by
  rintro s X Y row ⟨v, M, hv, hM, hn, he⟩ hg hr
  refine ⟨v, M, hv.kept hg (fun e => ?_), hM.kept hg hr, hn, he⟩
  obtain ⟨o, ho, hc⟩ := hr B e.symm
  rw [show X.heap[B]? = _ from hv] at ho; cases ho; cases hc

theorem cells_own {β : Type} (b : Nat) (cs : Array Value) (t : TypeId) : Own (fun (_ : β) W => W.heap[b]? = some (.cells cs t (0, 0))) := by
  intro s X Y row h hg hr
  refine (hg.block b (Array.getElem?_eq_some_iff.1 h).1 (fun e => ?_)).trans h
  obtain ⟨o, ho, hc⟩ := hr b e.symm
  rw [h] at ho; cases ho; cases hc

/-- A store into a box of another type leaves the rows as they are. -/
theorem RowsAt.setBox {W : World} {base B : Nat} {v u : Value} {M : List (Nat × List (Int × ByteArray))} (h : RowsAt W base v M) (hv : Boxed W B 39 u) (v' : Value) : RowsAt (W.setCell ⟨B, 0, none⟩ v') base v M :=
  h.keepOn (fun k hk hx => Below.heap_setCell _ _ _ _ (fun e => by
    have e' : k = B := e
    subst e'
    have hv' : W.heap[k]? = some (.cells #[u] 39 (0, 0)) := hv
    rcases hx with hx | ⟨p, hp, hx⟩
    · rcases h.own.2 with ⟨h3, _⟩ | ⟨gg, cp, cur, h3, _, h4, _⟩
      · rw [h3] at hx; cases hx
      · rw [h3] at hx
        simp only [Value.ownBlock, Option.some.injEq] at hx
        rw [← hx, h4] at hv'
        simp at hv'
    · have := (h.blk p hp).2
      unfold RowBlk at this
      rw [hx, hv'] at this
      simp at this))

theorem found_more {W w3 w4 : World} {n₀ B bA : Nat} {v : Value} {M : List (Nat × List (Int × ByteArray))} {rr : List (Int × ByteArray)} {o : Obj} {rs : List (List (Int × ByteArray))} {g' cap' : Nat} {cs : Array Value} (hM : RowsAt W n₀ v M) (hnd : (M.map Prod.fst).Nodup) (hMe : M.map Prod.snd = rs)
    (hb3 : Below W.heap.size W w3) (hblk3 : w3.heap[W.heap.size]? = some (.cells (vcells rr).toArray 30 (0, 0))) (h0 : n₀ ≤ W.heap.size) (hne : ¬ bA = B) (hA : W.heap[bA]? = some (.cells cs 92 (0, 0)))
    (hown4 : w4.ownsRow n₀ 25 1 (.slice (some ⟨g', 0, none⟩) (M.length + 1) cap') (M.length + 1) (M.map rval ++ [rval (W.heap.size, rr)])) (hgrow : (w3.alloc o).grownBy w4 v.ownBlock) (hv1 : Boxed w4 B 39 v) :
    Found n₀ B (rs ++ [rr]) (w4.setCell ⟨B, 0, none⟩ (.slice (some ⟨g', 0, none⟩) (M.length + 1) cap')) ∧ (w4.setCell ⟨B, 0, none⟩ (.slice (some ⟨g', 0, none⟩) (M.length + 1) cap')).heap[bA]? = W.heap[bA]? := by
  have hs := hb3.size
  have hbA : bA < W.heap.size := (Array.getElem?_eq_some_iff.1 hA).1
  refine ⟨⟨_, M ++ [(W.heap.size, rr)], hv1.set _, (rows_push hM hb3 hblk3 (Nat.le_refl _) h0 hown4 hgrow).setBox hv1 _, ?_, by rw [List.map_append, hMe]; rfl⟩, ?_⟩
  · rw [List.map_append, List.nodup_append]
    refine ⟨hnd, by simp, fun a ha b hb e => ?_⟩
    obtain ⟨p, hp, rfl⟩ := List.mem_map.1 ha
    have hb' : b = W.heap.size := by simpa using hb
    have := (hM.blk p hp).2.lt
    omega
  · rw [Below.heap_setCell _ _ _ _ hne, hgrow.block bA (by simp; omega) ?_, Below.heap_alloc _ _ _ (by omega), hb3.block _ hbA]
    intro e
    rcases hM.own.2 with ⟨h3, _⟩ | ⟨gg, cp, cur, h3, _, h4, _⟩
    · rw [h3] at e; cases e
    · rw [h3] at e
      simp only [Value.ownBlock, Option.some.injEq] at e
      rw [← e, hA] at h4
      simp at h4

set_option maxRecDepth 100000 in
set_option maxHeartbeats 1000000 in
theorem storeScan_ok (base bs : Nat) (ks : List Int) (L : List (Nat × List (Int × ByteArray))) (sv : Value) (fa : Option Addr) (fc : Nat) (tcap : Nat) (ta : Option Addr) (T : List Tst) (w : World) (h : StoreAt w base bs ks L sv (.slice fa L.length fc))
    (hL : L.length ≤ 1000) (hk : 0 < ks.length) (hk6 : ks.length ≤ 6) (hrow : ∀ p ∈ L, p.2.length = ks.length ∧ ∀ x ∈ p.2, x.2.size ≤ 1000000) (hT : TestsAt w ta T) (hv : ValidT ks T) :
    Calls Tryd.prog 29 #[.pointer (some ⟨bs, 0, none⟩), .slice ta T.length tcap] w fun e w' => ∃ v M, e = .returned (.tuple #[v, .nilIface]) ∧
      RowsAt w' w.heap.size v M ∧ M.map Prod.snd = (L.map Prod.snd).filter (fun r => passB ks r T) ∧ Below w.heap.size w w' ∧ (M.map Prod.fst).Nodup := by
  obtain ⟨i0, hi0, hz0, hz1, hz2⟩ := info_parts info_row
  obtain ⟨sc, scap, rfl, hkin, hsc0, scs, hscs⟩ := h.kinds hk
  have hsc : sc < w.heap.size := hkin.lt hk
  have hbs : bs < w.heap.size := (Array.getElem?_eq_some_iff.1 h.blk).1
  have c0 : w.cell? ⟨bs, 0, none⟩ = some (.slice (some ⟨sc, 0, none⟩) ks.length scap) := by rw [cell_of_row _ _ _ _ _ _ h.blk]; rfl
  have HH : Hid (StoreAt w base bs ks L (.slice (some ⟨sc, 0, none⟩) ks.length scap) (.slice fa L.length fc)) := h
  have HK : Hid (KindsIn w sc ks) := hkin
  have HT : Hid (TestsAt w ta T) := hT
  have HV : Hid (ValidT ks T) := hv
  have HR : Hid (∀ p ∈ L, p.2.length = ks.length ∧ ∀ x ∈ p.2, x.2.size ≤ 1000000) := hrow
  clear h hkin hT hv hrow hscs
  refine (callsIn_wide (n := 3)).1 ?_
  refine callsIn_of_wp_marks Tryd.func29 rfl trivial ?_ rfl
  simp only [Tryd.ntmps29, List.size_toArray, List.length_cons, List.length_nil, Nat.reduceAdd, Nat.reduceSub, Array.replicate_succ, Array.replicate_zero, List.push_toArray, List.append_toArray, List.nil_append, List.cons_append]
  gi_wp2_with (refine ⟨trivial, ?_⟩; gi_at_call 45; refine (callsIn_wide.2 (sieveNew_ok sc scap tcap ta ks T w hk HK.out HT.out HV.out)).mono ?_; rintro e w1 ⟨rfl, hb1⟩)
  refine ⟨trivial, (callsIn_wide.2 (passing_ok bs _ _ _)).mono ?_⟩
  rintro e w2 ⟨rfl, rfl⟩
  gi_wp2
  have hs1 := hb1.size
  have hW0 : Below w.heap.size w ((((w1.alloc (.cells #[Value.slice (some ⟨sc, 0, none⟩) ks.length scap, Value.slice ta T.length tcap] 92)).alloc (.cells #[.slice none 0 0] 39)).alloc (.cells #[Value.pointer (some ⟨bs, 0, none⟩)] 72)).alloc (.cells #[Value.slice (some ⟨sc, 0, none⟩) ks.length scap, Value.slice ta T.length tcap] 92)) :=
    (((hb1.alloc hs1 _).alloc (by simp; omega) _).alloc (by simp; omega) _).alloc (by simp; omega) _
  have bF : Boxed ((((w1.alloc (.cells #[Value.slice (some ⟨sc, 0, none⟩) ks.length scap, Value.slice ta T.length tcap] 92)).alloc (.cells #[.slice none 0 0] 39)).alloc (.cells #[Value.pointer (some ⟨bs, 0, none⟩)] 72)).alloc (.cells #[Value.slice (some ⟨sc, 0, none⟩) ks.length scap, Value.slice ta T.length tcap] 92)) (w1.heap.size + 1) 39 (.slice none 0 0) := by
    have := Boxed.new (w1.alloc (.cells #[Value.slice (some ⟨sc, 0, none⟩) ks.length scap, Value.slice ta T.length tcap] 92)) 39 (.slice none 0 0)
    rw [World.size_alloc] at this
    exact (this.alloc _).alloc _
  have bP : Boxed ((((w1.alloc (.cells #[Value.slice (some ⟨sc, 0, none⟩) ks.length scap, Value.slice ta T.length tcap] 92)).alloc (.cells #[.slice none 0 0] 39)).alloc (.cells #[Value.pointer (some ⟨bs, 0, none⟩)] 72)).alloc (.cells #[Value.slice (some ⟨sc, 0, none⟩) ks.length scap, Value.slice ta T.length tcap] 92)) (w1.heap.size + 1 + 1) 72 (Value.pointer (some ⟨bs, 0, none⟩)) := by
    have := Boxed.new ((w1.alloc (.cells #[Value.slice (some ⟨sc, 0, none⟩) ks.length scap, Value.slice ta T.length tcap] 92)).alloc (.cells #[.slice none 0 0] 39)) 72 (Value.pointer (some ⟨bs, 0, none⟩))
    rw [World.size_alloc, World.size_alloc] at this
    exact this.alloc _
  have bQ : ((((w1.alloc (.cells #[Value.slice (some ⟨sc, 0, none⟩) ks.length scap, Value.slice ta T.length tcap] 92)).alloc (.cells #[.slice none 0 0] 39)).alloc (.cells #[Value.pointer (some ⟨bs, 0, none⟩)] 72)).alloc (.cells #[Value.slice (some ⟨sc, 0, none⟩) ks.length scap, Value.slice ta T.length tcap] 92)).heap[w1.heap.size + 1 + 1 + 1]? = some (.cells #[Value.slice (some ⟨sc, 0, none⟩) ks.length scap, Value.slice ta T.length tcap] 92 (0, 0)) := by
    have := heap_alloc_new (((w1.alloc (.cells #[Value.slice (some ⟨sc, 0, none⟩) ks.length scap, Value.slice ta T.length tcap] 92)).alloc (.cells #[.slice none 0 0] 39)).alloc (.cells #[Value.pointer (some ⟨bs, 0, none⟩)] 72)) (.cells #[Value.slice (some ⟨sc, 0, none⟩) ks.length scap, Value.slice ta T.length tcap] 92)
    rw [World.size_alloc, World.size_alloc, World.size_alloc] at this
    exact this
  have hz : ((((w1.alloc (.cells #[Value.slice (some ⟨sc, 0, none⟩) ks.length scap, Value.slice ta T.length tcap] 92)).alloc (.cells #[.slice none 0 0] 39)).alloc (.cells #[Value.pointer (some ⟨bs, 0, none⟩)] 72)).alloc (.cells #[Value.slice (some ⟨sc, 0, none⟩) ks.length scap, Value.slice ta T.length tcap] 92)).heap.size = w1.heap.size + 4 := by simp
  revert hW0 bF bP bQ hz
  generalize ((((w1.alloc (.cells #[Value.slice (some ⟨sc, 0, none⟩) ks.length scap, Value.slice ta T.length tcap] 92)).alloc (.cells #[.slice none 0 0] 39)).alloc (.cells #[Value.pointer (some ⟨bs, 0, none⟩)] 72)).alloc (.cells #[Value.slice (some ⟨sc, 0, none⟩) ks.length scap, Value.slice ta T.length tcap] 92)) = W0
  intro hW0 bF bP bQ hz
  have HZ : Hid (W0.heap.size = w1.heap.size + 4) := hz
  have hz' : w1.heap.size + 4 ≤ W0.heap.size := by omega
  clear hz
  refine wpIn_rangeFunc_ownG rfl (by omega) (gf := 68) (lb := #[.pointer (some ⟨w1.heap.size + 1 + 1, 0, none⟩), .pointer (some ⟨w1.heap.size + 1 + 1 + 1, 0, none⟩)]) rfl trivial (enters_of Tryd.func68 (by kernel_rfl) rfl)
    (passing1_stops _ (by omega) base bs (w1.heap.size + 1 + 1) (w1.heap.size + 1 + 1 + 1) sc scap tcap ta fa fc ks T L _ w W0 HH.out hL hk (fun p hp => (HR.out p hp).1) HK.out HT.out HV.out hW0 bP.cell bQ) KeepsS.trans (keepsS_b (by omega) (by omega)) (Below.refl _ _) (fun _ => rfl)
    (fun pre W => Found w.heap.size (w1.heap.size + 1) (pre.map (fun x => x.1.2)) W ∧ Below w.heap.size w W ∧ W.heap[w1.heap.size + 1 + 1 + 1]? = some (.cells #[Value.slice (some ⟨sc, 0, none⟩) ks.length scap, Value.slice ta T.length tcap] 92 (0, 0)))
    (fun _ _ _ => False)
    (OwnFrom.and (Own.from (found_own _ _ _) _) (OwnFrom.and (ownFrom_below (Nat.le_refl _) (by omega)) (Own.from (cells_own _ _ _) _)))
    (fun _ _ _ _ _ hs _ _ => hs)
    ⟨⟨_, [], bF, ⟨World.ownsRow_nil _ _ _ _, by simp⟩, by simp, rfl⟩, hW0, bQ⟩
    (fun x => { tmps := #[Value.pointer (some ⟨bs, 0, none⟩), Value.slice ta T.length tcap, undef, undef, Value.slice none 0 0, Value.nilIface, Value.pointer (some ⟨w1.heap.size, 0, none⟩), Value.nilIface, Value.pointer (some ⟨w1.heap.size + 1, 0, none⟩), rval x.1, Value.tuple #[Value.agg #[Value.slice (some ⟨sc, 0, none⟩) ks.length scap, Value.slice ta T.length tcap], Value.nilIface], Value.pointer (some ⟨bs, 0, none⟩), Value.pointer (some ⟨bs, 0, none⟩), Value.pointer (some ⟨bs, 0, none⟩), Value.slice (some ⟨sc, 0, none⟩) ks.length scap, Value.slice ta T.length tcap, Value.tuple #[Value.agg #[Value.slice (some ⟨sc, 0, none⟩) ks.length scap, Value.slice ta T.length tcap], Value.nilIface], Value.agg #[Value.slice (some ⟨sc, 0, none⟩) ks.length scap, Value.slice ta T.length tcap], Value.nilIface, Value.nilIface, Value.bool false, undef, Value.pointer (some ⟨bs, 0, none⟩), Value.agg #[Value.slice (some ⟨sc, 0, none⟩) ks.length scap, Value.slice ta T.length tcap], Value.func (Fn.func 68) #[] #[Value.pointer (some ⟨w1.heap.size + 1 + 1, 0, none⟩), Value.pointer (some ⟨w1.heap.size + 1 + 1 + 1, 0, none⟩)], rval x.1, undef, undef, undef, undef, undef, undef], defers := [] }) ?assign ?body ?done ?stop
  case assign =>
    intro l x W K hK
    gi_wp2
    exact hK
  case body =>
    rintro l pre ⟨⟨rg, rr⟩, hm⟩ W ⟨⟨v, M, hv, hM, hnd, hMe⟩, hB, hA⟩ hlt
    have hmx : Tryd.prog.follows .mixedOrders = true := by kernel_rfl
    dsimp only [rval]
    obtain ⟨rlo, rblk⟩ := HH.out.rows.blk _ hm
    obtain ⟨rlen, rsz⟩ := HR.out _ hm
    dsimp only at rlen rsz
    have hrl : rg < w.heap.size := rblk.lt
    have RIN : Hid (RowIn W rg rr) := (rblk.rowIn).keep (hB.block _ hrl)
    have RSZ : Hid (∀ x ∈ rr, x.2.size ≤ 1000000) := rsz
    have rl6 : rr.length ≤ 6 := by omega
    have hML : M.length ≤ 1000 := by
      have := congrArg List.length hMe
      simp at this; omega
    have HM : Hid (RowsAt W w.heap.size v M) := hM
    have HE : Hid (M.map Prod.snd = pre.map (fun x => x.1.2)) := hMe
    have hsr := hB.size
    have hc := hv.cell
    have hf := hv.frozen
    have HA : Hid (W.heap[w1.heap.size + 1 + 1 + 1]? = some (.cells #[Value.slice (some ⟨sc, 0, none⟩) ks.length scap, Value.slice ta T.length tcap] 92 (0, 0))) := hA
    clear hA
    clear hM hMe rlo rblk rlen rsz c0
    gi_wp2
    refine wpIn_region_any (by assumption) ?_
    change wpAnyIn _ _ _ _ _ _ _ _ _ (World.drew _)
    refine wpAnyIn_ready (rs := [0, 1]) (by kernel_rfl) (by simp) ?_
    refine AllReadyIn.cons rfl (fun K hK => ?_) ?_
    · go_simp
      refine hK _ _ ?_
      clear hK K
      refine wpAnyIn_ready (rs := [1]) (by kernel_rfl) (by simp) ?_
      refine AllReadyIn.cons rfl (fun K hK => ?_) ?_
      · go_simp
        refine hK _ _ ?_
        clear hK K
        refine wpAnyIn_ready (rs := [2]) (by kernel_rfl) (by simp) ?_
        refine AllReadyIn.cons rfl (fun K hK => ?_) ?_
        · go_simp
          refine ⟨trivial, ?_⟩
          refine (CallsIn.inRound l (callsIn_wide.2 (apart_any rr rg rr.length W.drew RIN.out (by omega) RSZ.out))).mono ?_
          rintro e w3 ⟨rfl, hblk3, hb3⟩
          replace hb3 : Below W.heap.size W w3 := (Below.refl _ W).drew.trans hb3
          have hv3 := hv.kept (grownBy_below hb3) (by simp)
          have hc3 := hv3.cell
          have hf3 := hv3.frozen
          have hc3' := fun o => (hv3.alloc o).cell
          obtain ⟨v', w4, hrun, hown4, hgrow, _⟩ := run_append_own (P := Tryd.prog) (w3.alloc (.cells #[.slice (some ⟨W.heap.size, 0, none⟩) rr.length rr.length] 25)) w.heap.size 39 39 25 i0 _ 1 24 Tryd.underlying39 hi0 hz0 hz1 hz2 rfl (by omega) v M.length (M.map rval) ((ownsRow_below HM.out.own hb3).alloc _) ⟨w3.heap.size, 0, none⟩ 1 1 [.slice (some ⟨W.heap.size, 0, none⟩) rr.length rr.length] (by rfl) (cell_one_new _ _ _) (by simp [Value.oneCell']) (by unfold maxLen; omega) (by omega) (by have := hb3.size; simp; omega)
          obtain ⟨g', cap', rfl⟩ := ownsRow_succ hown4
          obtain ⟨hv1, hv2, hr2, hk2, hb2⟩ := hv3.appended (by decide) (ownsRow_below HM.out.own hb3) (by have := hb3.size; omega) (by omega) hown4 hgrow
          have hc1 := hv1.cell
          have hf1 := hv1.frozen
          refine hK _ _ ?_
          clear hK K
          refine wpAnyIn_ready (rs := [3]) (by kernel_rfl) (by simp) ?_
          refine AllReadyIn.cons rfl (fun K hK => ?_) ?_
          · go_simp
            refine hK _ _ ?_
            clear hK K
            refine wpAnyIn_ready (rs := [4]) (by kernel_rfl) (by simp) ?_
            refine AllReadyIn.cons rfl (fun K hK => ?_) ?_
            · refine appendIn_step rfl rfl (by rfl) (by rfl) hrun ?_
              refine hK _ _ ?_
              clear hK K
              refine wpAnyIn_ready (rs := [5]) (by kernel_rfl) (by simp) ?_
              refine AllReadyIn.cons rfl (fun K hK => ?_) ?_
              · go_simp
                refine hK _ _ ?_
                clear hK K
                refine wpAnyIn_done (by kernel_rfl) ?_ _
                gi_wp2
                obtain ⟨f1, f2⟩ := found_more (B := w1.heap.size + 1) HM.out hnd HE.out hb3 hblk3 hsr (by omega) HA.out hown4 hgrow hv1
                exact ⟨((KeepsOthers.of_grownBy (grownBy_below hb3) (fun j o e => by cases e)).trans hk2).from _, ⟨(hb3.mono hsr).trans hb2, f2⟩, by simpa using f1, hB.trans ((hb3.mono hsr).trans hb2), f2.trans HA.out⟩
              exact AllReadyIn.nil
            exact AllReadyIn.nil
          exact AllReadyIn.nil
        exact AllReadyIn.nil
      exact AllReadyIn.nil
    refine AllReadyIn.cons rfl (fun K hK => ?_) ?_
    · go_simp
      refine hK _ _ ?_
      clear hK K
      refine wpAnyIn_ready (rs := [0, 2]) (by kernel_rfl) (by simp) ?_
      refine AllReadyIn.cons rfl (fun K hK => ?_) ?_
      · go_simp
        refine hK _ _ ?_
        clear hK K
        refine wpAnyIn_ready (rs := [2]) (by kernel_rfl) (by simp) ?_
        refine AllReadyIn.cons rfl (fun K hK => ?_) ?_
        · go_simp
          refine ⟨trivial, ?_⟩
          refine (CallsIn.inRound l (callsIn_wide.2 (apart_any rr rg rr.length W.drew RIN.out (by omega) RSZ.out))).mono ?_
          rintro e w3 ⟨rfl, hblk3, hb3⟩
          replace hb3 : Below W.heap.size W w3 := (Below.refl _ W).drew.trans hb3
          have hv3 := hv.kept (grownBy_below hb3) (by simp)
          have hc3 := hv3.cell
          have hf3 := hv3.frozen
          have hc3' := fun o => (hv3.alloc o).cell
          obtain ⟨v', w4, hrun, hown4, hgrow, _⟩ := run_append_own (P := Tryd.prog) (w3.alloc (.cells #[.slice (some ⟨W.heap.size, 0, none⟩) rr.length rr.length] 25)) w.heap.size 39 39 25 i0 _ 1 24 Tryd.underlying39 hi0 hz0 hz1 hz2 rfl (by omega) v M.length (M.map rval) ((ownsRow_below HM.out.own hb3).alloc _) ⟨w3.heap.size, 0, none⟩ 1 1 [.slice (some ⟨W.heap.size, 0, none⟩) rr.length rr.length] (by rfl) (cell_one_new _ _ _) (by simp [Value.oneCell']) (by unfold maxLen; omega) (by omega) (by have := hb3.size; simp; omega)
          obtain ⟨g', cap', rfl⟩ := ownsRow_succ hown4
          obtain ⟨hv1, hv2, hr2, hk2, hb2⟩ := hv3.appended (by decide) (ownsRow_below HM.out.own hb3) (by have := hb3.size; omega) (by omega) hown4 hgrow
          have hc1 := hv1.cell
          have hf1 := hv1.frozen
          refine hK _ _ ?_
          clear hK K
          refine wpAnyIn_ready (rs := [3]) (by kernel_rfl) (by simp) ?_
          refine AllReadyIn.cons rfl (fun K hK => ?_) ?_
          · go_simp
            refine hK _ _ ?_
            clear hK K
            refine wpAnyIn_ready (rs := [4]) (by kernel_rfl) (by simp) ?_
            refine AllReadyIn.cons rfl (fun K hK => ?_) ?_
            · refine appendIn_step rfl rfl (by rfl) (by rfl) hrun ?_
              refine hK _ _ ?_
              clear hK K
              refine wpAnyIn_ready (rs := [5]) (by kernel_rfl) (by simp) ?_
              refine AllReadyIn.cons rfl (fun K hK => ?_) ?_
              · go_simp
                refine hK _ _ ?_
                clear hK K
                refine wpAnyIn_done (by kernel_rfl) ?_ _
                gi_wp2
                obtain ⟨f1, f2⟩ := found_more (B := w1.heap.size + 1) HM.out hnd HE.out hb3 hblk3 hsr (by omega) HA.out hown4 hgrow hv1
                exact ⟨((KeepsOthers.of_grownBy (grownBy_below hb3) (fun j o e => by cases e)).trans hk2).from _, ⟨(hb3.mono hsr).trans hb2, f2⟩, by simpa using f1, hB.trans ((hb3.mono hsr).trans hb2), f2.trans HA.out⟩
              exact AllReadyIn.nil
            exact AllReadyIn.nil
          exact AllReadyIn.nil
        exact AllReadyIn.nil
      refine AllReadyIn.cons rfl (fun K hK => ?_) ?_
      · go_simp
        refine ⟨trivial, ?_⟩
        refine (CallsIn.inRound l (callsIn_wide.2 (apart_any rr rg rr.length W.drew RIN.out (by omega) RSZ.out))).mono ?_
        rintro e w3 ⟨rfl, hblk3, hb3⟩
        replace hb3 : Below W.heap.size W w3 := (Below.refl _ W).drew.trans hb3
        have hv3 := hv.kept (grownBy_below hb3) (by simp)
        have hc3 := hv3.cell
        have hf3 := hv3.frozen
        have hc3' := fun o => (hv3.alloc o).cell
        obtain ⟨v', w4, hrun, hown4, hgrow, _⟩ := run_append_own (P := Tryd.prog) (w3.alloc (.cells #[.slice (some ⟨W.heap.size, 0, none⟩) rr.length rr.length] 25)) w.heap.size 39 39 25 i0 _ 1 24 Tryd.underlying39 hi0 hz0 hz1 hz2 rfl (by omega) v M.length (M.map rval) ((ownsRow_below HM.out.own hb3).alloc _) ⟨w3.heap.size, 0, none⟩ 1 1 [.slice (some ⟨W.heap.size, 0, none⟩) rr.length rr.length] (by rfl) (cell_one_new _ _ _) (by simp [Value.oneCell']) (by unfold maxLen; omega) (by omega) (by have := hb3.size; simp; omega)
        obtain ⟨g', cap', rfl⟩ := ownsRow_succ hown4
        obtain ⟨hv1, hv2, hr2, hk2, hb2⟩ := hv3.appended (by decide) (ownsRow_below HM.out.own hb3) (by have := hb3.size; omega) (by omega) hown4 hgrow
        have hc1 := hv1.cell
        have hf1 := hv1.frozen
        refine hK _ _ ?_
        clear hK K
        refine wpAnyIn_ready (rs := [0, 3]) (by kernel_rfl) (by simp) ?_
        refine AllReadyIn.cons rfl (fun K hK => ?_) ?_
        · go_simp
          refine hK _ _ ?_
          clear hK K
          refine wpAnyIn_ready (rs := [3]) (by kernel_rfl) (by simp) ?_
          refine AllReadyIn.cons rfl (fun K hK => ?_) ?_
          · go_simp
            refine hK _ _ ?_
            clear hK K
            refine wpAnyIn_ready (rs := [4]) (by kernel_rfl) (by simp) ?_
            refine AllReadyIn.cons rfl (fun K hK => ?_) ?_
            · refine appendIn_step rfl rfl (by rfl) (by rfl) hrun ?_
              refine hK _ _ ?_
              clear hK K
              refine wpAnyIn_ready (rs := [5]) (by kernel_rfl) (by simp) ?_
              refine AllReadyIn.cons rfl (fun K hK => ?_) ?_
              · go_simp
                refine hK _ _ ?_
                clear hK K
                refine wpAnyIn_done (by kernel_rfl) ?_ _
                gi_wp2
                obtain ⟨f1, f2⟩ := found_more (B := w1.heap.size + 1) HM.out hnd HE.out hb3 hblk3 hsr (by omega) HA.out hown4 hgrow hv1
                exact ⟨((KeepsOthers.of_grownBy (grownBy_below hb3) (fun j o e => by cases e)).trans hk2).from _, ⟨(hb3.mono hsr).trans hb2, f2⟩, by simpa using f1, hB.trans ((hb3.mono hsr).trans hb2), f2.trans HA.out⟩
              exact AllReadyIn.nil
            exact AllReadyIn.nil
          exact AllReadyIn.nil
        refine AllReadyIn.cons rfl (fun K hK => ?_) ?_
        · go_simp
          refine hK _ _ ?_
          clear hK K
          refine wpAnyIn_ready (rs := [0]) (by kernel_rfl) (by simp) ?_
          refine AllReadyIn.cons rfl (fun K hK => ?_) ?_
          · go_simp
            refine hK _ _ ?_
            clear hK K
            refine wpAnyIn_ready (rs := [4]) (by kernel_rfl) (by simp) ?_
            refine AllReadyIn.cons rfl (fun K hK => ?_) ?_
            · refine appendIn_step rfl rfl (by rfl) (by rfl) hrun ?_
              refine hK _ _ ?_
              clear hK K
              refine wpAnyIn_ready (rs := [5]) (by kernel_rfl) (by simp) ?_
              refine AllReadyIn.cons rfl (fun K hK => ?_) ?_
              · go_simp
                refine hK _ _ ?_
                clear hK K
                refine wpAnyIn_done (by kernel_rfl) ?_ _
                gi_wp2
                obtain ⟨f1, f2⟩ := found_more (B := w1.heap.size + 1) HM.out hnd HE.out hb3 hblk3 hsr (by omega) HA.out hown4 hgrow hv1
                exact ⟨((KeepsOthers.of_grownBy (grownBy_below hb3) (fun j o e => by cases e)).trans hk2).from _, ⟨(hb3.mono hsr).trans hb2, f2⟩, by simpa using f1, hB.trans ((hb3.mono hsr).trans hb2), f2.trans HA.out⟩
              exact AllReadyIn.nil
            exact AllReadyIn.nil
          exact AllReadyIn.nil
        exact AllReadyIn.nil
      exact AllReadyIn.nil
    exact AllReadyIn.nil
  case done =>
    rintro D ys W hD hys ⟨⟨v, M, hv, hM, hnd, hMe⟩, hB, _⟩ hK
    have hc := hv.cell
    gi_wp2
    refine ⟨by simp, .inl ⟨_, _, rfl, run_takeDeferred hK, ?_⟩⟩
    refine ⟨_, results_tmp2 rfl _ _ _, v, M, rfl, hM.kept (grownBy_putObj' W D _) (fun r e => by cases e; exact ⟨_, hK, rfl⟩), ?_, hB.trans (belowK_b (w := w) (Nat.le_refl _) W D _ _ (by omega) hK rfl rfl), hnd⟩
    have e1 : ys.map (fun x => x.1.2) = (ys.map Subtype.val).map Prod.snd := by simp
    rw [hMe, e1, hys, List.filter_map]; rfl
  case stop =>
    rintro D c pre W _ _ h _
    exact h.elim

end Go.Proofs.YtcconhgbefhdeaaDoor

namespace Go.Proofs.YtcconhgbefhdeaaDoor
open Go.RowKit

theorem StoreAt.form {w : World} {base bs : Nat} {ks : List Int} {L : List (Nat × List (Int × ByteArray))} {sv fv : Value} (h : StoreAt w base bs ks L sv fv) : ∃ fa fc, fv = .slice fa L.length fc := by
  rcases h.rows.own.2 with ⟨h1, h2⟩ | ⟨gg, cp, _, h1, _⟩
  · exact ⟨none, 0, by rw [h1, h2]⟩
  · exact ⟨_, cp, h1⟩

set_option maxHeartbeats 400000 in
theorem scan_ok (base bt bs : Nat) (ks : List Int) (L : List (Nat × List (Int × ByteArray))) (sv fv : Value) (tcap : Nat) (ta : Option Addr) (T : List Tst) (w : World) (h : TableAt w base bt bs ks L sv fv)
    (hL : L.length ≤ 1000) (hk : 0 < ks.length) (hk6 : ks.length ≤ 6) (hrow : ∀ p ∈ L, p.2.length = ks.length ∧ ∀ x ∈ p.2, x.2.size ≤ 1000000) (hT : TestsAt w ta T) (hv : ValidT ks T) :
    Calls Tryd.prog 12 #[.pointer (some ⟨bt, 0, none⟩), .slice ta T.length tcap] w fun e w' => ∃ v M, e = .returned (.tuple #[v, .nilIface]) ∧
      RowsAt w' w.heap.size v M ∧ M.map Prod.snd = (L.map Prod.snd).filter (fun r => passB ks r T) ∧ Below w.heap.size w w' ∧ (M.map Prod.fst).Nodup := by
  have c0 : w.cell? ⟨bt, 0, none⟩ = some (.pointer (some ⟨bs, 0, none⟩)) := by rw [cell_of_row _ _ _ _ _ _ h.tab]; rfl
  obtain ⟨fa, fc, rfl⟩ := h.sto.form
  go_enter Tryd.func12, Tryd.ntmps12
  go_wp2_with fail
  refine (storeScan_ok base bs ks L sv fa fc tcap ta T w h.sto hL hk hk6 hrow hT hv).mono ?_
  rintro e w1 ⟨v, M, rfl, hM, hMe, hb, hnd⟩
  have HM : Hid (M.map Prod.snd = (L.map Prod.snd).filter (fun r => passB ks r T)) := hMe
  clear hMe c0
  go_wp2_with fail
  refine (faultIn_nil _).mono ?_
  rintro e w2 ⟨rfl, hb2⟩
  go_wp2
  go_ret2
  exact ⟨v, M, rfl, hM.keepOn (fun k hk _ => hb2.block k hk), HM.out, hb.trans (hb2.mono hb.size), hnd⟩

/-- A row of raw numbers. -/
structure Raw where
  n : Int
  bits : Int
  s : ByteArray
  flag : Int

def cutS (s : ByteArray) : ByteArray := if 40 < s.size then s.extract 0 40 else s
def Raw.row (r : Raw) : List (Int × ByteArray) := [(r.n, .empty), (r.bits, .empty), (0, cutS r.s), (pickI r.flag 2, .empty)]

set_option maxHeartbeats 400000 in
theorem schema_ok (w : World) : Calls Tryd.prog 26 #[] w fun e w' => e = .returned (.slice (some ⟨w.heap.size, 0, none⟩) 4 4) ∧ w' = w.alloc (.cells #[.int .i64 1, .int .i64 2, .int .i64 3, .int .i64 4] 3) := by
  go_enter Tryd.func26, Tryd.ntmps26
  go_wp2
  go_ret
  exact ⟨rfl, rfl⟩

theorem row_close {w : World} {o1 : Obj} (n b : Int) (c : ByteArray) (p : Int) (r : Raw) (h : r.row = [(n, .empty), (b, .empty), (0, c), (p, .empty)]) :
    RowBlk ((w.alloc o1).alloc (.cells #[.int .i64 n, .string ⟨#[]⟩, .int .i64 b, .string ⟨#[]⟩, .int .i64 0, .string c, .int .i64 p, .string ⟨#[]⟩] 30)).drew (w.heap.size + 1, r.row) ∧
    Below w.heap.size w ((w.alloc o1).alloc (.cells #[.int .i64 n, .string ⟨#[]⟩, .int .i64 b, .string ⟨#[]⟩, .int .i64 0, .string c, .int .i64 p, .string ⟨#[]⟩] 30)).drew := by
  refine ⟨?_, (((Below.refl _ _).alloc (Nat.le_refl _) _).alloc (by simp) _).drew⟩
  rw [h]
  exact new_second w _ _

set_option maxHeartbeats 1000000 in
theorem row_ok (r : Raw) (w : World) (f1 : -9223372036854775808 ≤ r.flag) (f2 : r.flag ≤ 9223372036854775807) :
    Calls Tryd.prog 11 #[.agg #[.int .i64 r.n, .int .i64 r.bits, .string r.s, .int .i64 r.flag]] w fun e w' => e = .returned (.slice (some ⟨w.heap.size + 1, 0, none⟩) 4 4) ∧ RowBlk w' (w.heap.size + 1, r.row) ∧ Below w.heap.size w w' := by
  by_cases h : (40 : Int) < (r.s.size : Int)
  · have hcut : cutS r.s = r.s.extract 0 40 := by unfold cutS; rw [if_pos (by omega)]
    have HC : Hid (r.row = [(r.n, .empty), (r.bits, .empty), (0, r.s.extract 0 40), (pickI r.flag 2, .empty)]) := by unfold Raw.row Hid; rw [hcut]
    clear hcut
    go_enter Tryd.func11, Tryd.ntmps11
    go_wp2_with fail
    go_region_held3 (fun w' => w'.cell? ⟨w.heap.size, 0, none⟩ = some (.int .i64 r.n) ∧ w'.cell? ⟨w.heap.size, 1, none⟩ = some (.int .i64 r.bits) ∧ w'.cell? ⟨w.heap.size, 3, none⟩ = some (.int .i64 r.flag)) (go_keep)
      (first | (go_at_call 18; refine (pick_any _ _ _ f1 f2 (by omega) (by omega)).mono ?_; rintro e w1 ⟨rfl, rfl⟩))
    go_wp2
    go_ret
    exact ⟨rfl, row_close _ _ _ _ r HC.out⟩
  · have hcut : cutS r.s = r.s := by unfold cutS; rw [if_neg (by omega)]
    have HC : Hid (r.row = [(r.n, .empty), (r.bits, .empty), (0, r.s), (pickI r.flag 2, .empty)]) := by unfold Raw.row Hid; rw [hcut]
    clear hcut
    go_enter Tryd.func11, Tryd.ntmps11
    go_wp2_with fail
    go_region_held3 (fun w' => w'.cell? ⟨w.heap.size, 0, none⟩ = some (.int .i64 r.n) ∧ w'.cell? ⟨w.heap.size, 1, none⟩ = some (.int .i64 r.bits) ∧ w'.cell? ⟨w.heap.size, 3, none⟩ = some (.int .i64 r.flag)) (go_keep)
      (first | (go_at_call 18; refine (pick_any _ _ _ f1 f2 (by omega) (by omega)).mono ?_; rintro e w1 ⟨rfl, rfl⟩))
    go_wp2
    go_ret
    exact ⟨rfl, row_close _ _ _ _ r HC.out⟩

end Go.Proofs.YtcconhgbefhdeaaDoor
