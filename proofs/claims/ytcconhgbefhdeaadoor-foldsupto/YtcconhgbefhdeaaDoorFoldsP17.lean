import Derived.Test.YtcconhgbefhdeaaDoorFoldsP16
import Derived.Test.YtcconhgbefhdeaaDoorFoldsP05
namespace Go.Proofs.YtcconhgbefhdeaaDoor
open Go.RowKit Go.Shelf

attribute [local go_sem] Oper.semAt_some

set_option maxHeartbeats 1000000 in
theorem tallyResult_ok (tb : Nat) (kd how : Int) (a : Int × ByteArray) (n : Nat) (w : World) (h : TallyAt w tb kd how a n) :
    Calls Tryd.prog 52 #[.pointer (some ⟨tb, 0, none⟩)] w fun e w' => e = .returned (.tuple #[.agg #[.int .i64 a.1, .string a.2], .int .i64 n]) ∧ Below w.heap.size w w' := by
  obtain ⟨an, asx⟩ := a
  have htb : tb < w.heap.size := (Array.getElem?_eq_some_iff.1 h).1
  have c2 : ∀ o, (w.alloc o).cell? ⟨tb, 2, none⟩ = some (.int .i64 an) := fun o => (cell_alloc w o _ _ htb).trans (by rw [cell_of_row _ _ _ _ _ _ h]; rfl)
  have c3 : ∀ o, (w.alloc o).cell? ⟨tb, 3, none⟩ = some (.string asx) := fun o => (cell_alloc w o _ _ htb).trans (by rw [cell_of_row _ _ _ _ _ _ h]; rfl)
  have c4 : ∀ o, (w.alloc o).cell? ⟨tb, 4, none⟩ = some (.int .i64 n) := fun o => (cell_alloc w o _ _ htb).trans (by rw [cell_of_row _ _ _ _ _ _ h]; rfl)
  have hmx : Tryd.prog.follows .mixedOrders = true := by kernel_rfl
  clear h
  go_enter Tryd.func52, Tryd.ntmps52
  go_wp2
  go_region
  all_goals
    go_wp2
    refine bodyPost_ret (v := .tuple #[.agg #[.int .i64 an, .string asx], .int .i64 n]) (by simp [results, Tryd.results52, go_sem]) rfl ⟨rfl, ?_⟩
    exact ((Below.refl _ _).alloc (Nat.le_refl _) _).drew

/-- What comes of all values. -/
def foldAll (how : Int) : List (Int × ByteArray) → Int × ByteArray
  | [] => (0, ⟨#[]⟩)
  | v :: vs => vs.foldl (foldV how) v

theorem two_new (W : World) (o1 o2 : Obj) : ((W.alloc o1).alloc o2).heap[W.heap.size]? = some o1 ∧ ((W.alloc o1).alloc o2).heap[W.heap.size + 1]? = some o2 ∧ ∀ k, k < W.heap.size → ((W.alloc o1).alloc o2).heap[k]? = W.heap[k]? := by
  refine ⟨(Below.heap_alloc _ _ _ (by simp)).trans (heap_alloc_new W _), new_second W o1 o2, fun k hk => (Below.heap_alloc _ _ _ (by simp; omega)).trans (Below.heap_alloc _ _ _ hk)⟩

/-- The same, those of a Real too. -/
def foldAllG (kd how : Int) : List (Int × ByteArray) → Int × ByteArray
  | [] => (0, ⟨#[]⟩)
  | v :: vs => vs.foldl (foldG kd how) v

theorem foldG_plain (kd how : Int) (hk : ¬ kd = 2) : foldG kd how = foldV how := by
  funext a v
  unfold foldG foldV leastG mostG
  rw [if_neg hk, if_neg hk]
theorem foldAllG_plain (kd how : Int) (hk : ¬ kd = 2) (l : List (Int × ByteArray)) : foldAllG kd how l = foldAll how l := by
  cases l with
  | nil => rfl
  | cons a l => show l.foldl (foldG kd how) a = l.foldl (foldV how) a; rw [foldG_plain kd how hk]
theorem foldG_snoc (kd how : Int) (l : List (Int × ByteArray)) (v : Int × ByteArray) : foldAllG kd how (l ++ [v]) = if l.length = 0 then v else foldG kd how (foldAllG kd how l) v := by
  cases l with
  | nil => rfl
  | cons a l => simp [foldAllG]

theorem fold_snoc (how : Int) (l : List (Int × ByteArray)) (v : Int × ByteArray) : foldAll how (l ++ [v]) = if l.length = 0 then v else foldV how (foldAll how l) v := by
  cases l with
  | nil => rfl
  | cons a l => simp [foldAll]

theorem Fr.grownOne {w w' : World} {tb : Nat} (h : Fr [tb] w w') : w.grownBy w' (some tb) :=
  ⟨h.os, h.tape, h.output, h.size, fun k hk hne => h.block k hk (fun hm => hne (by rw [List.mem_singleton.1 hm]))⟩

/-- What stands in memory while a column's values are taken in. -/
structure FoldAt (w : World) (n₀ tb mb ab rb qb : Nat) (kd how : Int) (c : Nat) (a : Int × ByteArray) (n : Nat) (sa : Array Value) (w0 : World) : Prop where
  tal : TallyAt w tb kd how a n
  box : w.heap[mb]? = some (.cells #[.pointer (some ⟨tb, 0, none⟩)] 104 (0, 0))
  at' : w.heap[ab]? = some (.cells #[.int .i64 c] 3 (0, 0))
  res : w.heap[rb]? = some (.cells #[.int .i64 0, .string ⟨#[]⟩] 30 (0, 0))
  siv : w.heap[qb]? = some (.cells sa 92 (0, 0))
  bel : Below n₀ w0 w

theorem FoldAt.keep {w w' : World} {n₀ tb mb ab rb qb : Nat} {kd how : Int} {c : Nat} {a : Int × ByteArray} {n : Nat} {sa : Array Value} {w0 : World} (h : FoldAt w n₀ tb mb ab rb qb kd how c a n sa w0) (hb : ∀ (k : Nat) (cs : Array Value) (t : TypeId), w.heap[k]? = some (.cells cs t (0, 0)) → w'.heap[k]? = w.heap[k]?) (hB : Below n₀ w0 w') : FoldAt w' n₀ tb mb ab rb qb kd how c a n sa w0 :=
  ⟨(hb _ _ _ h.tal).trans h.tal, (hb _ _ _ h.box).trans h.box, (hb _ _ _ h.at').trans h.at', (hb _ _ _ h.res).trans h.res, (hb _ _ _ h.siv).trans h.siv, hB⟩

theorem foldAt_own {β : Type} (n₀ tb mb ab rb qb : Nat) (kd how : Int) (c : Nat) (f : β → Int × ByteArray) (g : β → Nat) (sa : Array Value) (w0 : World) (B : Nat) (hB : n₀ ≤ B) (h0 : n₀ ≤ w0.heap.size) : OwnFrom B (fun s W => FoldAt W n₀ tb mb ab rb qb kd how c (f s) (g s) sa w0) := by
  intro s X Y row h hg hr
  have key : ∀ (k : Nat) (cs : Array Value) (t : TypeId), X.heap[k]? = some (.cells cs t (0, 0)) → Y.heap[k]? = X.heap[k]? := fun k cs t hk => hg.block k (Array.getElem?_eq_some_iff.1 hk).1 (fun e => by
    obtain ⟨_, o, ho, hc⟩ := hr k e.symm
    rw [hk] at ho; cases ho; cases hc)
  refine h.keep key (h.bel.grown hg ?_ (fun k e => ?_))
  · have := h.bel.size; omega
  · have := (hr k e).1; omega

theorem FoldAt.added {w w' : World} {n₀ tb mb ab rb qb : Nat} {kd how : Int} {c : Nat} {a b : Int × ByteArray} {n m : Nat} {sa : Array Value} {w0 : World} (h : FoldAt w n₀ tb mb ab rb qb kd how c a n sa w0) (hF : Fr [tb] w w') (hT : TallyAt w' tb kd how b m) (hn : n₀ ≤ tb) (h0 : n₀ ≤ w.heap.size) : FoldAt w' n₀ tb mb ab rb qb kd how c b m sa w0 := by
  have ht := h.tal
  unfold TallyAt at ht
  have key : ∀ (k : Nat) (cs : Array Value) (t : TypeId), w.heap[k]? = some (.cells cs t (0, 0)) → ¬ t = 145 → w'.heap[k]? = w.heap[k]? := fun k cs t hk hne => hF.block k (Array.getElem?_eq_some_iff.1 hk).1 (fun hm => by
    rw [List.mem_singleton.1 hm, ht] at hk
    simp at hk
    exact hne hk.2.symm)
  exact ⟨hT, (key _ _ _ h.box (by decide)).trans h.box, (key _ _ _ h.at' (by decide)).trans h.at', (key _ _ _ h.res (by decide)).trans h.res, (key _ _ _ h.siv (by decide)).trans h.siv, h.bel.trans (hF.below h0 (fun i hi => by rw [List.mem_singleton.1 hi]; exact hn))⟩

set_option maxRecDepth 100000 in
set_option maxHeartbeats 1000000 in
theorem storeFold_ok (base bs : Nat) (ks : List Int) (L : List (Nat × List (Int × ByteArray))) (sv : Value) (fa : Option Addr) (fc : Nat) (tcap : Nat) (ta : Option Addr) (T : List Tst) (c : Nat) (how : Int) (w : World) (h : StoreAt w base bs ks L sv (.slice fa L.length fc))
    (hL : L.length ≤ 1000) (hk : 0 < ks.length) (hrow : ∀ p ∈ L, p.2.length = ks.length) (hT : TestsAt w ta T) (hv : ValidT ks T) (hc : c < ks.length) (hh : how = 1 ∨ how = 2 ∨ how = 3) (hh1 : how = 1 → ks[c] = 1) :
    Calls Tryd.prog 34 #[.pointer (some ⟨bs, 0, none⟩), .slice ta T.length tcap, .int .i64 c, .int .i64 how] w fun e w' =>
      e = .returned (.tuple #[.agg #[.int .i64 (foldAllG ks[c] how (((L.map Prod.snd).filter (fun r => passB ks r T)).map (fun r => r.getD c (0, .empty)))).1, .string (foldAllG ks[c] how (((L.map Prod.snd).filter (fun r => passB ks r T)).map (fun r => r.getD c (0, .empty)))).2], .int .i64 ((L.map Prod.snd).filter (fun r => passB ks r T)).length, .nilIface]) ∧ Below w.heap.size w w' := by
  obtain ⟨sc, scap, rfl, hkin, hsc0, scs, hscs⟩ := h.kinds hk
  have hsc : sc < w.heap.size := hkin.lt hk
  have hbs : bs < w.heap.size := (Array.getElem?_eq_some_iff.1 h.blk).1
  have c0 : w.cell? ⟨bs, 0, none⟩ = some (.slice (some ⟨sc, 0, none⟩) ks.length scap) := by rw [cell_of_row _ _ _ _ _ _ h.blk]; rfl
  have HH : Hid (StoreAt w base bs ks L (.slice (some ⟨sc, 0, none⟩) ks.length scap) (.slice fa L.length fc)) := h
  have HK : Hid (KindsIn w sc ks) := hkin
  have HT : Hid (TestsAt w ta T) := hT
  have HV : Hid (ValidT ks T) := hv
  have HR : Hid (∀ p ∈ L, p.2.length = ks.length) := hrow
  have B0 : ∀ o1 o2, Below w.heap.size w ((w.alloc o1).alloc o2) := fun o1 o2 => ((Below.refl _ _).alloc (Nat.le_refl _) _).alloc (by simp) _
  have c0' : ∀ o1 o2, ((w.alloc o1).alloc o2).cell? ⟨bs, 0, none⟩ = some (.slice (some ⟨sc, 0, none⟩) ks.length scap) := fun o1 o2 => ((B0 o1 o2).cell (p := ⟨bs, 0, none⟩) hbs).trans c0
  have HB0 : Hid (∀ o1 o2, Below w.heap.size w ((w.alloc o1).alloc o2)) := B0
  clear h hkin hT hv hrow hscs B0
  refine (callsIn_wide (n := 3)).1 ?_
  refine callsIn_of_wp_marks Tryd.func34 rfl trivial ?_ rfl
  simp only [Tryd.ntmps34, List.size_toArray, List.length_cons, List.length_nil, Nat.reduceAdd, Nat.reduceSub, Array.replicate_succ, Array.replicate_zero, List.push_toArray, List.append_toArray, List.nil_append, List.cons_append]
  gi_wp2_with (refine ⟨trivial, ?_⟩; gi_at_call 45; refine (callsIn_wide.2 (sieveNew_ok sc scap tcap ta ks T _ hk (HK.out.keep ((HB0.out _ _).block sc hsc)) (HT.out.keep (fun j hj => (HB0.out _ _).block j hj)) HV.out)).mono ?_; rintro e w1 ⟨rfl, hb1⟩)
  have hmx : Tryd.prog.follows .mixedOrders = true := by kernel_rfl
  rename_i Kc hKc
  have s1 := hb1.size
  simp at s1
  have BW : Below w.heap.size w (w1.alloc (.cells #[Value.slice (some ⟨sc, 0, none⟩) ks.length scap, Value.slice ta T.length tcap] 92)) := ((HB0.out _ _).trans (hb1.mono (by simp; omega))).alloc (by omega) _
  have v0 : (w1.alloc (.cells #[Value.slice (some ⟨sc, 0, none⟩) ks.length scap, Value.slice ta T.length tcap] 92)).cell? ⟨bs, 0, none⟩ = some (Value.slice (some ⟨sc, 0, none⟩) ks.length scap) := (BW.cell (p := ⟨bs, 0, none⟩) hbs).trans c0
  have ab1 : w1.heap[w.heap.size]? = some (.cells #[.int .i64 c] 3 (0, 0)) := (hb1.block _ (by simp; omega)).trans ((Below.heap_alloc _ _ _ (by simp)).trans (heap_alloc_new w _))
  have rb1 : w1.heap[w.heap.size + 1]? = some (.cells #[.int .i64 0, .string ⟨#[]⟩] 30 (0, 0)) := (hb1.block _ (by simp)).trans (new_second w _ _)
  have v1 : (w1.alloc (.cells #[Value.slice (some ⟨sc, 0, none⟩) ks.length scap, Value.slice ta T.length tcap] 92)).cell? ⟨w.heap.size, 0, none⟩ = some (.int .i64 c) := (cell_alloc w1 _ _ _ (by omega)).trans (by rw [cell_of_row _ _ _ _ _ _ ab1]; rfl)
  have HAB : Hid (w1.heap[w.heap.size]? = some (.cells #[.int .i64 c] 3 (0, 0))) := ab1
  have HRB : Hid (w1.heap[w.heap.size + 1]? = some (.cells #[.int .i64 0, .string ⟨#[]⟩] 30 (0, 0))) := rb1
  have KW : Hid (KindsIn (w1.alloc (.cells #[Value.slice (some ⟨sc, 0, none⟩) ks.length scap, Value.slice ta T.length tcap] 92)) sc ks) := HK.out.keep (BW.block sc hsc)
  have HBW : Hid (Below w.heap.size w (w1.alloc (.cells #[Value.slice (some ⟨sc, 0, none⟩) ks.length scap, Value.slice ta T.length tcap] 92))) := BW
  clear c0 c0' hb1 ab1 rb1 BW
  suffices key : ∀ (tb mb : Nat) (W : World), w1.heap.size < tb → w1.heap.size < mb → FoldAt W w.heap.size tb mb w.heap.size (w.heap.size + 1) w1.heap.size ks[c] how c (0, ⟨#[]⟩) 0 #[Value.slice (some ⟨sc, 0, none⟩) ks.length scap, Value.slice ta T.length tcap] w →
      Kc { tmps := #[Value.pointer (some ⟨bs, 0, none⟩), Value.slice ta T.length tcap, Value.int .i64 c, Value.int .i64 how, undef, undef, Value.pointer (some ⟨w.heap.size, 0, none⟩), undef, Value.pointer (some ⟨w.heap.size + 1, 0, none⟩), Value.int .i64 0, Value.nilIface, Value.pointer (some ⟨w1.heap.size, 0, none⟩), Value.nilIface, Value.pointer (some ⟨mb, 0, none⟩), undef, undef, undef, Value.tuple #[Value.agg #[Value.slice (some ⟨sc, 0, none⟩) ks.length scap, Value.slice ta T.length tcap], Value.nilIface], Value.pointer (some ⟨bs, 0, none⟩), Value.pointer (some ⟨bs, 0, none⟩), Value.pointer (some ⟨bs, 0, none⟩), Value.slice (some ⟨sc, 0, none⟩) ks.length scap, Value.slice ta T.length tcap, Value.tuple #[Value.agg #[Value.slice (some ⟨sc, 0, none⟩) ks.length scap, Value.slice ta T.length tcap], Value.nilIface], Value.agg #[Value.slice (some ⟨sc, 0, none⟩) ks.length scap, Value.slice ta T.length tcap], Value.nilIface, Value.nilIface, Value.bool false, undef, undef, Value.tuple #[Value.pointer (some ⟨tb, 0, none⟩), Value.nilIface], Value.pointer (some ⟨bs, 0, none⟩), Value.pointer (some ⟨bs, 0, none⟩), Value.pointer (some ⟨bs, 0, none⟩), Value.slice (some ⟨sc, 0, none⟩) ks.length scap, Value.int .i64 c, Value.int .i64 how, Value.tuple #[Value.pointer (some ⟨tb, 0, none⟩), Value.nilIface], Value.pointer (some ⟨tb, 0, none⟩), Value.nilIface, undef, undef, undef, undef, undef, undef, undef, undef, undef, undef, undef, undef, undef, undef, undef, undef, undef, undef, undef, undef, undef], defers := [] } W by
    have v0a : ∀ o, ((w1.alloc (.cells #[Value.slice (some ⟨sc, 0, none⟩) ks.length scap, Value.slice ta T.length tcap] 92)).alloc o).cell? ⟨bs, 0, none⟩ = some (Value.slice (some ⟨sc, 0, none⟩) ks.length scap) := fun o => (cell_alloc _ _ _ _ (by simp; omega)).trans v0
    have v1a : ∀ o, ((w1.alloc (.cells #[Value.slice (some ⟨sc, 0, none⟩) ks.length scap, Value.slice ta T.length tcap] 92)).alloc o).cell? ⟨w.heap.size, 0, none⟩ = some (.int .i64 c) := fun o => (cell_alloc _ _ _ _ (by simp; omega)).trans v1
    refine wpIn_wide.2 ?_
    go_region_held3 (fun w' => w'.cell? ⟨bs, 0, none⟩ = some (Value.slice (some ⟨sc, 0, none⟩) ks.length scap) ∧ w'.cell? ⟨w.heap.size, 0, none⟩ = some (.int .i64 c)) (go_keep)
      (first
        | (go_at_call 50; refine (tallyNew_ok sc scap ks c how _ (KW.out.keep (by first | exact rfl | exact Below.heap_alloc _ _ _ (by simp; omega))) hc hh hh1).mono ?_; rintro e w2 ⟨rfl, rfl⟩))
    · have tn := two_new (w1.alloc (.cells #[Value.slice (some ⟨sc, 0, none⟩) ks.length scap, Value.slice ta T.length tcap] 92)) (.cells #[.int .i64 ks[c], .int .i64 how, .int .i64 0, .string ⟨#[]⟩, .int .i64 0] 145) (.cells #[.pointer (some ⟨w1.heap.size + 1, 0, none⟩)] 104)
      simp only [World.size_alloc] at tn
      exact key (w1.heap.size + 1) (w1.heap.size + 1 + 1) _ (by omega) (by omega) ⟨tn.1, tn.2.1, (tn.2.2 _ (by omega)).trans ((Below.heap_alloc _ _ _ (by omega)).trans HAB.out), (tn.2.2 _ (by omega)).trans ((Below.heap_alloc _ _ _ (by omega)).trans HRB.out), (tn.2.2 _ (by omega)).trans (heap_alloc_new w1 _), ((HBW.out.alloc (by simp; omega) _).alloc (by simp; omega) _).drew⟩
    · have tn := two_new (w1.alloc (.cells #[Value.slice (some ⟨sc, 0, none⟩) ks.length scap, Value.slice ta T.length tcap] 92)) (.cells #[.pointer (some ⟨w1.heap.size + 1 + 1, 0, none⟩)] 104) (.cells #[.int .i64 ks[c], .int .i64 how, .int .i64 0, .string ⟨#[]⟩, .int .i64 0] 145)
      simp only [World.size_alloc] at tn
      exact key (w1.heap.size + 1 + 1) (w1.heap.size + 1) _ (by omega) (by omega) ⟨tn.2.1, tn.1, (tn.2.2 _ (by omega)).trans ((Below.heap_alloc _ _ _ (by omega)).trans HAB.out), (tn.2.2 _ (by omega)).trans ((Below.heap_alloc _ _ _ (by omega)).trans HRB.out), (tn.2.2 _ (by omega)).trans (heap_alloc_new w1 _), ((HBW.out.alloc (by simp; omega) _).alloc (by simp; omega) _).drew⟩
  intro tb mb W htb hmb hF
  refine hKc _ _ ?_
  have a0 : W.cell? ⟨w1.heap.size, 0, none⟩ = some (Value.slice (some ⟨sc, 0, none⟩) ks.length scap) := by rw [cell_of_row _ _ _ _ _ _ hF.siv]; rfl
  have a1 : W.cell? ⟨w1.heap.size, 1, none⟩ = some (Value.slice ta T.length tcap) := by rw [cell_of_row _ _ _ _ _ _ hF.siv]; rfl
  have HF : Hid (FoldAt W w.heap.size tb mb w.heap.size (w.heap.size + 1) w1.heap.size ks[c] how c (0, ⟨#[]⟩) 0 #[Value.slice (some ⟨sc, 0, none⟩) ks.length scap, Value.slice ta T.length tcap] w) := hF
  clear hF v0 v1 HAB HRB KW HBW hKc
  gi_wp2
  refine ⟨trivial, (callsIn_wide.2 (passing_ok bs _ _ _)).mono ?_⟩
  rintro e w2 ⟨rfl, rfl⟩
  gi_wp2
  have sW := HF.out.bel.size
  have hsW : w1.heap.size < W.heap.size := (Array.getElem?_eq_some_iff.1 HF.out.siv).1
  have tn := two_new W (.cells #[Value.pointer (some ⟨bs, 0, none⟩)] 72) (.cells #[Value.slice (some ⟨sc, 0, none⟩) ks.length scap, Value.slice ta T.length tcap] 92)
  have FW : FoldAt ((W.alloc (.cells #[Value.pointer (some ⟨bs, 0, none⟩)] 72)).alloc (.cells #[Value.slice (some ⟨sc, 0, none⟩) ks.length scap, Value.slice ta T.length tcap] 92)) w.heap.size tb mb w.heap.size (w.heap.size + 1) w1.heap.size ks[c] how c (0, ⟨#[]⟩) 0 #[Value.slice (some ⟨sc, 0, none⟩) ks.length scap, Value.slice ta T.length tcap] w := HF.out.keep (fun k _ _ hk => tn.2.2 k (Array.getElem?_eq_some_iff.1 hk).1) ((HF.out.bel.alloc (by omega) _).alloc (by simp; omega) _)
  have zW : ((W.alloc (.cells #[Value.pointer (some ⟨bs, 0, none⟩)] 72)).alloc (.cells #[Value.slice (some ⟨sc, 0, none⟩) ks.length scap, Value.slice ta T.length tcap] 92)).heap.size = W.heap.size + 2 := by simp
  revert tn FW zW
  generalize (W.alloc (.cells #[Value.pointer (some ⟨bs, 0, none⟩)] 72)).alloc (.cells #[Value.slice (some ⟨sc, 0, none⟩) ks.length scap, Value.slice ta T.length tcap] 92) = W0
  intro tn FW zW
  have htl : tb < W.heap.size := (Array.getElem?_eq_some_iff.1 HF.out.tal).1
  have hml : mb < W.heap.size := (Array.getElem?_eq_some_iff.1 HF.out.box).1
  have hz' : W.heap.size + 2 ≤ W0.heap.size := by omega
  have HZ : Hid (W0.heap.size = W.heap.size + 2) := zW
  clear zW a0 a1
  have bP : W0.cell? ⟨W.heap.size, 0, none⟩ = some (Value.pointer (some ⟨bs, 0, none⟩)) := by rw [cell_of_row _ _ _ _ _ _ tn.1]; rfl
  refine wpIn_rangeFunc_ownG rfl (by omega) (gf := 68) (lb := #[.pointer (some ⟨W.heap.size, 0, none⟩), .pointer (some ⟨W.heap.size + 1, 0, none⟩)]) rfl trivial (enters_of Tryd.func68 (by kernel_rfl) rfl)
    (passing1_stops _ (by omega) base bs W.heap.size (W.heap.size + 1) sc scap tcap ta fa fc ks T L _ w W0 HH.out hL hk HR.out HK.out HT.out HV.out FW.bel bP tn.2.1) KeepsS.trans (keepsS_b (by omega) (by omega)) (Below.refl _ _) (fun _ => rfl)
    (fun pre W' => FoldAt W' w.heap.size tb mb w.heap.size (w.heap.size + 1) (W.heap.size + 1) ks[c] how c (foldAllG ks[c] how (pre.map (fun (x : Of L) => x.1.2.getD c (0, .empty)))) pre.length #[Value.slice (some ⟨sc, 0, none⟩) ks.length scap, Value.slice ta T.length tcap] w)
    (fun _ _ _ => False)
    (foldAt_own w.heap.size _ _ _ _ _ _ _ _ _ _ _ w W0.heap.size (by omega) (Nat.le_refl _))
    (fun _ _ _ _ _ hs _ _ => hs)
    ⟨FW.tal, FW.box, FW.at', FW.res, tn.2.1, FW.bel⟩
    (fun x => { tmps := #[Value.pointer (some ⟨bs, 0, none⟩), Value.slice ta T.length tcap, Value.int .i64 c, Value.int .i64 how, undef, undef, Value.pointer (some ⟨w.heap.size, 0, none⟩), undef, Value.pointer (some ⟨w.heap.size + 1, 0, none⟩), Value.int .i64 0, Value.nilIface, Value.pointer (some ⟨w1.heap.size, 0, none⟩), Value.nilIface, Value.pointer (some ⟨mb, 0, none⟩), rval x.1, undef, undef, Value.tuple #[Value.agg #[Value.slice (some ⟨sc, 0, none⟩) ks.length scap, Value.slice ta T.length tcap], Value.nilIface], Value.pointer (some ⟨bs, 0, none⟩), Value.pointer (some ⟨bs, 0, none⟩), Value.pointer (some ⟨bs, 0, none⟩), Value.slice (some ⟨sc, 0, none⟩) ks.length scap, Value.slice ta T.length tcap, Value.tuple #[Value.agg #[Value.slice (some ⟨sc, 0, none⟩) ks.length scap, Value.slice ta T.length tcap], Value.nilIface], Value.agg #[Value.slice (some ⟨sc, 0, none⟩) ks.length scap, Value.slice ta T.length tcap], Value.nilIface, Value.nilIface, Value.bool false, undef, undef, Value.tuple #[Value.pointer (some ⟨tb, 0, none⟩), Value.nilIface], Value.pointer (some ⟨bs, 0, none⟩), Value.pointer (some ⟨bs, 0, none⟩), Value.pointer (some ⟨bs, 0, none⟩), Value.slice (some ⟨sc, 0, none⟩) ks.length scap, Value.int .i64 c, Value.int .i64 how, Value.tuple #[Value.pointer (some ⟨tb, 0, none⟩), Value.nilIface], Value.pointer (some ⟨tb, 0, none⟩), Value.nilIface, Value.nilIface, Value.bool false, undef, undef, Value.pointer (some ⟨bs, 0, none⟩), Value.agg #[Value.slice (some ⟨sc, 0, none⟩) ks.length scap, Value.slice ta T.length tcap], Value.func (Fn.func 68) #[] #[Value.pointer (some ⟨W.heap.size, 0, none⟩), Value.pointer (some ⟨W.heap.size + 1, 0, none⟩)], rval x.1, undef, undef, undef, undef, undef, undef, undef, undef, undef, undef, undef, undef, undef], defers := [] }) ?assign ?body ?done ?stop
  case assign =>
    intro l x W' K hK
    gi_wp2
    exact hK
  case body =>
    rintro l pre ⟨⟨rg, rr⟩, hm⟩ W' hI hlt
    dsimp only [rval]
    obtain ⟨rlo, rblk⟩ := HH.out.rows.blk _ hm
    have rlen := HR.out _ hm
    dsimp only at rlen
    have hrl : rg < w.heap.size := rblk.lt
    have hcr : c < rr.length := by omega
    obtain ⟨y1, y2⟩ := ((rblk.rowIn).keep (hI.bel.block _ hrl)) c hcr
    have m0 : W'.cell? ⟨mb, 0, none⟩ = some (.pointer (some ⟨tb, 0, none⟩)) := by rw [cell_of_row _ _ _ _ _ _ hI.box]; rfl
    have t0 : W'.cell? ⟨w.heap.size, 0, none⟩ = some (.int .i64 c) := by rw [cell_of_row _ _ _ _ _ _ hI.at']; rfl
    have HI : Hid (FoldAt W' w.heap.size tb mb w.heap.size (w.heap.size + 1) (W.heap.size + 1) ks[c] how c (foldAllG ks[c] how (pre.map (fun (x : Of L) => x.1.2.getD c (0, .empty)))) pre.length #[Value.slice (some ⟨sc, 0, none⟩) ks.length scap, Value.slice ta T.length tcap] w) := hI
    have HVC : Hid (rr.getD c (0, .empty) = rr[c]) := by unfold Hid; simp [List.getD, hcr]
    have hc0 : (0 : Int) ≤ (c : Int) := by omega
    have hc1 : (c : Int) < (rr.length : Int) := by omega
    clear rlo rblk hI bP
    generalize rr[c] = vc at *
    gi_wp2
    have HTA : TallyAt W'.drew tb ks[c] how (foldAllG ks[c] how (pre.map (fun (x : Of L) => x.1.2.getD c (0, .empty)))) pre.length := HI.out.tal
    have HAD := tallyAdd_ok tb ks[c] how _ vc pre.length W'.drew HTA hh (by omega)
    clear HTA
    gi_region_with_o (refine ⟨trivial, ?_⟩; gi_at_call 51; refine (CallsIn.inRound l (callsIn_wide.2 HAD)).mono ?_; rintro e w3 ⟨rfl, hF3, hT3⟩)
    all_goals gi_wp2
    all_goals
      have hF3' : Fr [tb] W' w3 := ⟨hF3.os, hF3.tape, hF3.output, hF3.size, hF3.block⟩
      have sW' := HI.out.bel.size
      have hq := HI.out.siv
      have hqb : W.heap.size + 1 < W'.heap.size := (Array.getElem?_eq_some_iff.1 hq).1
      refine ⟨KeepsFrom.of_grownBy hF3'.grownOne (fun j e => by cases e; omega), ⟨hF3'.below sW' (fun i hi => by rw [List.mem_singleton.1 hi]; omega), hF3'.block _ hqb (by simp; omega)⟩, ?_⟩
      dsimp only
      rw [List.map_append, List.length_append]
      refine HI.out.added hF3' ?_ (by omega) sW'
      have e : foldAllG ks[c] how (pre.map (fun (x : Of L) => x.1.2.getD c (0, .empty)) ++ [(⟨(rg, rr), hm⟩ : Of L)].map (fun (x : Of L) => x.1.2.getD c (0, .empty))) = if pre.length = 0 then vc else foldG ks[c] how (foldAllG ks[c] how (pre.map (fun (x : Of L) => x.1.2.getD c (0, .empty)))) vc := by
        rw [List.map_cons, List.map_nil, foldG_snoc, List.length_map, HVC.out]
      rw [e]
      exact hT3
  case done =>
    rintro D ys W' hD hys hI hK
    have m0 : W'.cell? ⟨mb, 0, none⟩ = some (.pointer (some ⟨tb, 0, none⟩)) := by rw [cell_of_row _ _ _ _ _ _ hI.box]; rfl
    have HI : Hid (FoldAt W' w.heap.size tb mb w.heap.size (w.heap.size + 1) (W.heap.size + 1) ks[c] how c (foldAllG ks[c] how (ys.map (fun (x : Of L) => x.1.2.getD c (0, .empty)))) ys.length #[Value.slice (some ⟨sc, 0, none⟩) ks.length scap, Value.slice ta T.length tcap] w) := hI
    have HYS : Hid (ys.map Subtype.val = L.filter (fun p => passB ks p.2 T)) := hys
    have hDl : D < W'.heap.size := (Array.getElem?_eq_some_iff.1 hK).1
    have HKD : Hid (W'.heap[D]? = some (.deferred (some []))) := hK
    clear hI hys bP hK
    generalize hfa : foldAllG ks[c] how (ys.map (fun (x : Of L) => x.1.2.getD c (0, .empty))) = fav at *
    have HFA : Hid (foldAllG ks[c] how (ys.map (fun (x : Of L) => x.1.2.getD c (0, .empty))) = fav) := hfa
    clear hfa
    gi_wp2
    refine ⟨trivial, (callsIn_wide.2 (tallyResult_ok tb _ _ _ _ W' HI.out.tal)).mono ?_⟩
    rintro e w3 ⟨rfl, hb3⟩
    have s3 := hb3.size
    have hrbl : w.heap.size + 1 < W'.heap.size := (Array.getElem?_eq_some_iff.1 HI.out.res).1
    have hres : w3.heap[w.heap.size + 1]? = some (.cells #[.int .i64 0, .string ⟨#[]⟩] 30 (0, 0)) := (hb3.block _ hrbl).trans HI.out.res
    have hra : ∀ o, (w3.alloc o).heap[w.heap.size + 1]? = some (.cells #[.int .i64 0, .string ⟨#[]⟩] 30 (0, 0)) := fun o => (Below.heap_alloc _ _ _ (by omega)).trans hres
    have hrb : ∀ u o, ((w3.setCell ⟨w.heap.size + 1, 0, none⟩ u).alloc o).heap[w.heap.size + 1]? = some (.cells #[u, .string ⟨#[]⟩] 30 (0, 0)) := fun u o => (Below.heap_alloc _ _ _ (by simp [World.setCell]; omega)).trans (heap_setCell_same _ _ _ _ _ _ hres)
    have r0 : ∀ o, (w3.alloc o).cell? ⟨w.heap.size + 1, 0, none⟩ = some (.int .i64 0) := fun o => by rw [cell_of_row _ _ _ _ _ _ (hra o)]; rfl
    have g0 : ∀ o, (w3.alloc o).frozen? ⟨w.heap.size + 1, 0, none⟩ = false := fun o => by simp [World.frozen?, hra o]
    have r1 : ∀ u o, ((w3.setCell ⟨w.heap.size + 1, 0, none⟩ u).alloc o).cell? ⟨w.heap.size + 1, 1, none⟩ = some (.string ⟨#[]⟩) := fun u o => by rw [cell_of_row _ _ _ _ _ _ (hrb u o)]; rfl
    have g1 : ∀ u o, ((w3.setCell ⟨w.heap.size + 1, 0, none⟩ u).alloc o).frozen? ⟨w.heap.size + 1, 1, none⟩ = false := fun u o => by simp [World.frozen?, hrb u o]
    have hr3 : w.heap.size + 1 < w3.heap.size := by omega
    have HRS : Hid (w3.heap[w.heap.size + 1]? = some (.cells #[.int .i64 0, .string ⟨#[]⟩] 30 (0, 0))) := hres
    clear hres hra hrb
    gi_wp2
    obtain ⟨X, hX⟩ : ∃ X, ((w3.setCell ⟨w.heap.size + 1, 0, none⟩ (.int .i64 fav.1)).setCell ⟨w.heap.size + 1, 1, none⟩ (.string fav.2)).alloc (.cells #[.int .i64 fav.1, .string fav.2] 30) = X := ⟨_, rfl⟩
    rw [hX]
    have hsX : ((w3.setCell ⟨w.heap.size + 1, 0, none⟩ (.int .i64 fav.1)).setCell ⟨w.heap.size + 1, 1, none⟩ (.string fav.2)).heap.size = w3.heap.size := by simp [World.setCell]
    have hXr : X.heap[w.heap.size + 1]? = some (.cells #[.int .i64 fav.1, .string fav.2] 30 (0, 0)) := by
      rw [← hX]
      exact (Below.heap_alloc _ _ _ (by rw [hsX]; omega)).trans (heap_setCell_same _ _ _ _ _ _ (heap_setCell_same _ _ _ _ _ _ HRS.out))
    have sW := HI.out.bel.size
    have hDn : ¬ D = w.heap.size + 1 := fun e => by have h1 := HKD.out; rw [e, HI.out.res] at h1; cases h1
    have hXD : X.heap[D]? = some (.deferred (some [])) := by
      rw [← hX]
      refine (Below.heap_alloc _ _ _ (by rw [hsX]; omega)).trans ?_
      rw [heap_setCell_other _ _ _ _ hDn, heap_setCell_other _ _ _ _ hDn, hb3.block _ hDl]
      exact HKD.out
    have hXB : Below w.heap.size w X := by
      rw [← hX]
      exact (((HI.out.bel.trans (hb3.mono sW)).setCell (p := ⟨w.heap.size + 1, 0, none⟩) (by simp) _).setCell (p := ⟨w.heap.size + 1, 1, none⟩) (by simp) _).alloc (by rw [hsX]; omega) _
    have hPr : (X.putObj D (.deferred none)).heap[w.heap.size + 1]? = some (.cells #[.int .i64 fav.1, .string fav.2] 30 (0, 0)) := (World.putObj_heap_other (fun e => hDn (by omega))).trans hXr
    have z0 : (X.putObj D (.deferred none)).cell? ⟨w.heap.size + 1, 0, none⟩ = some (.int .i64 fav.1) := by rw [cell_of_row _ _ _ _ _ _ hPr]; rfl
    have z1 : (X.putObj D (.deferred none)).cell? ⟨w.heap.size + 1, 1, none⟩ = some (.string fav.2) := by rw [cell_of_row _ _ _ _ _ _ hPr]; rfl
    have e1 : ys.map (fun (x : Of L) => x.1.2.getD c (0, .empty)) = ((L.map Prod.snd).filter (fun r => passB ks r T)).map (fun r => r.getD c (0, .empty)) := by
      have e2 : ys.map (fun (x : Of L) => x.1.2.getD c (0, .empty)) = ((ys.map Subtype.val).map Prod.snd).map (fun r => r.getD c (0, .empty)) := by simp
      rw [e2, HYS.out, List.filter_map]; rfl
    have e3 : ys.length = ((L.map Prod.snd).filter (fun r => passB ks r T)).length := by
      have := congrArg List.length HYS.out
      rw [List.length_map] at this
      rw [this, List.filter_map, List.length_map]; rfl
    refine ⟨by simp, .inl ⟨_, _, rfl, run_takeDeferred hXD, ?_⟩⟩
    refine ⟨.tuple #[.agg #[.int .i64 fav.1, .string fav.2], .int .i64 ys.length, .nilIface], by simp [results, Tryd.results34, go_sem, z0, z1], ?_, hXB.trans (belowK_b (w := w) (Nat.le_refl _) X D _ _ (by omega) hXD rfl rfl)⟩
    rw [← e1, HFA.out, ← e3]
  case stop =>
    rintro D c pre W _ _ h _
    exact h.elim

end Go.Proofs.YtcconhgbefhdeaaDoor

namespace Go.Proofs.YtcconhgbefhdeaaDoor
open Go.RowKit

set_option maxRecDepth 100000 in
set_option maxHeartbeats 1000000 in
theorem foldG_ok (base bt bs : Nat) (ks : List Int) (L : List (Nat × List (Int × ByteArray))) (sv fv : Value) (tcap : Nat) (ta : Option Addr) (T : List Tst) (c : Nat) (how : Int) (w : World) (h : TableAt w base bt bs ks L sv fv)
    (hL : L.length ≤ 1000) (hk : 0 < ks.length) (hrow : ∀ p ∈ L, p.2.length = ks.length) (hT : TestsAt w ta T) (hv : ValidT ks T) (hc : c < ks.length) (hh : how = 1 ∨ how = 2 ∨ how = 3) (hh1 : how = 1 → ks[c] = 1) :
    Calls Tryd.prog 17 #[.pointer (some ⟨bt, 0, none⟩), .slice ta T.length tcap, .int .i64 c, .int .i64 how] w fun e w' =>
      e = .returned (.tuple #[.agg #[.int .i64 (foldAllG ks[c] how (((L.map Prod.snd).filter (fun r => passB ks r T)).map (fun r => r.getD c (0, .empty)))).1, .string (foldAllG ks[c] how (((L.map Prod.snd).filter (fun r => passB ks r T)).map (fun r => r.getD c (0, .empty)))).2], .int .i64 ((L.map Prod.snd).filter (fun r => passB ks r T)).length, .nilIface]) ∧ Below w.heap.size w w' := by
  obtain ⟨fa, fc, rfl⟩ := h.sto.form
  obtain ⟨fav, hfa⟩ : ∃ fav, foldAllG ks[c] how (((L.map Prod.snd).filter (fun r => passB ks r T)).map (fun r => r.getD c (0, .empty))) = fav := ⟨_, rfl⟩
  obtain ⟨nn, hnn⟩ : ∃ nn, ((L.map Prod.snd).filter (fun r => passB ks r T)).length = nn := ⟨_, rfl⟩
  have hbt : bt < w.heap.size := (Array.getElem?_eq_some_iff.1 h.tab).1
  have BA : ∀ o, Below w.heap.size w (w.alloc o) := fun o => (Below.refl _ _).alloc (Nat.le_refl _) _
  have c0 : ∀ o, (w.alloc o).cell? ⟨bt, 0, none⟩ = some (.pointer (some ⟨bs, 0, none⟩)) := fun o => (cell_alloc w o _ _ hbt).trans (by rw [cell_of_row _ _ _ _ _ _ h.tab]; rfl)
  have HS : Hid (∀ o, StoreAt (w.alloc o) base bs ks L sv (.slice fa L.length fc)) := fun o => h.sto.below (BA o)
  have HT : Hid (∀ o, TestsAt (w.alloc o) ta T) := fun o => hT.keep (fun j hj => (BA o).block j hj)
  have HFA : Hid (foldAllG ks[c] how (((L.map Prod.snd).filter (fun r => passB ks r T)).map (fun r => r.getD c (0, .empty))) = fav) := hfa
  have HNN : Hid (((L.map Prod.snd).filter (fun r => passB ks r T)).length = nn) := hnn
  have hmx : Tryd.prog.follows .mixedOrders = true := by kernel_rfl
  rw [hfa, hnn]
  clear h hT BA hfa hnn
  go_enter Tryd.func17, Tryd.ntmps17
  go_wp2_with fail
  refine (storeFold_ok base bs ks L sv fa fc tcap ta T c how _ (HS.out _) hL hk hrow (HT.out _) hv hc hh hh1).mono ?_
  rintro e w1 ⟨rfl, hb1⟩
  rw [HFA.out, HNN.out]
  have s1 := hb1.size
  simp at s1
  have RB : Hid (w1.heap[w.heap.size]? = some (.cells #[.int .i64 0, .string ⟨#[]⟩] 30 (0, 0))) := (hb1.block _ (by simp)).trans (heap_alloc_new w _)
  have B1 : Below w.heap.size w w1 := ((Below.refl _ _).alloc (Nat.le_refl _) _).trans (hb1.mono (by simp))
  clear hb1 c0
  go_wp2_with fail
  go_region_with
    (first
      | (go_at_call 30; refine (faultIn_nil _).mono ?_; rintro e w2 ⟨rfl, hb2⟩
         have s2 := hb2.size
         have hrb : w2.heap[w.heap.size]? = some (.cells #[.int .i64 0, .string ⟨#[]⟩] 30 (0, 0)) := (hb2.block _ (by simp; omega)).trans ((Below.heap_alloc _ _ _ (by omega)).trans RB.out)
         have hvb : w2.heap[w1.heap.size]? = some (.cells #[.int .i64 fav.1, .string fav.2] 30 (0, 0)) := (hb2.block _ (by simp)).trans (heap_alloc_new w1 _)
         have r0 : w2.cell? ⟨w.heap.size, 0, none⟩ = some (.int .i64 0) := by rw [cell_of_row _ _ _ _ _ _ hrb]; rfl
         have g0 : w2.frozen? ⟨w.heap.size, 0, none⟩ = false := by simp [World.frozen?, hrb]
         have r1 : ∀ u, (w2.setCell ⟨w.heap.size, 0, none⟩ u).cell? ⟨w.heap.size, 1, none⟩ = some (.string ⟨#[]⟩) := fun u => by rw [cell_of_row _ _ _ _ _ _ (heap_setCell_same _ _ _ _ _ _ hrb)]; rfl
         have g1 : ∀ u, (w2.setCell ⟨w.heap.size, 0, none⟩ u).frozen? ⟨w.heap.size, 1, none⟩ = false := fun u => by simp [World.frozen?, heap_setCell_same _ _ _ _ _ _ hrb]
         have q0 : w2.cell? ⟨w1.heap.size, 0, none⟩ = some (.int .i64 fav.1) := by rw [cell_of_row _ _ _ _ _ _ hvb]; rfl
         have q1 : w2.cell? ⟨w1.heap.size, 1, none⟩ = some (.string fav.2) := by rw [cell_of_row _ _ _ _ _ _ hvb]; rfl
         have HRB : Hid (w2.heap[w.heap.size]? = some (.cells #[.int .i64 0, .string ⟨#[]⟩] 30 (0, 0))) := hrb
         clear hrb hvb))
  all_goals
    go_wp2
    have hX : ((w2.setCell ⟨w.heap.size, 0, none⟩ (.int .i64 fav.1)).setCell ⟨w.heap.size, 1, none⟩ (.string fav.2)).heap[w.heap.size]? = some (.cells #[.int .i64 fav.1, .string fav.2] 30 (0, 0)) := heap_setCell_same _ _ _ _ _ _ (heap_setCell_same _ _ _ _ _ _ HRB.out)
    have x0 : ((w2.setCell ⟨w.heap.size, 0, none⟩ (.int .i64 fav.1)).setCell ⟨w.heap.size, 1, none⟩ (.string fav.2)).cell? ⟨w.heap.size, 0, none⟩ = some (.int .i64 fav.1) := by rw [cell_of_row _ _ _ _ _ _ hX]; rfl
    have x1 : ((w2.setCell ⟨w.heap.size, 0, none⟩ (.int .i64 fav.1)).setCell ⟨w.heap.size, 1, none⟩ (.string fav.2)).cell? ⟨w.heap.size, 1, none⟩ = some (.string fav.2) := by rw [cell_of_row _ _ _ _ _ _ hX]; rfl
    refine bodyPost_ret (v := .tuple #[.agg #[.int .i64 fav.1, .string fav.2], .int .i64 nn, .nilIface]) (by simp [results, Tryd.results17, go_sem, x0, x1]) rfl ⟨rfl, ?_⟩
    exact Below.setCell (p := ⟨w.heap.size, 1, none⟩) (Below.setCell (p := ⟨w.heap.size, 0, none⟩) (((B1.alloc (by omega) _).drew).trans (hb2.mono (by simp; omega))) (by simp) _) (by simp) _

theorem fold_ok (base bt bs : Nat) (ks : List Int) (L : List (Nat × List (Int × ByteArray))) (sv fv : Value) (tcap : Nat) (ta : Option Addr) (T : List Tst) (c : Nat) (how : Int) (w : World) (h : TableAt w base bt bs ks L sv fv)
    (hL : L.length ≤ 1000) (hk : 0 < ks.length) (hrow : ∀ p ∈ L, p.2.length = ks.length) (hT : TestsAt w ta T) (hv : ValidT ks T) (hc : c < ks.length) (hh : how = 1 ∨ how = 2 ∨ how = 3) (hh1 : how = 1 → ks[c] = 1) (hr : ¬ ks[c] = 2) :
    Calls Tryd.prog 17 #[.pointer (some ⟨bt, 0, none⟩), .slice ta T.length tcap, .int .i64 c, .int .i64 how] w fun e w' =>
      e = .returned (.tuple #[.agg #[.int .i64 (foldAll how (((L.map Prod.snd).filter (fun r => passB ks r T)).map (fun r => r.getD c (0, .empty)))).1, .string (foldAll how (((L.map Prod.snd).filter (fun r => passB ks r T)).map (fun r => r.getD c (0, .empty)))).2], .int .i64 ((L.map Prod.snd).filter (fun r => passB ks r T)).length, .nilIface]) ∧ Below w.heap.size w w' := by
  have h1 := foldG_ok base bt bs ks L sv fv tcap ta T c how w h hL hk hrow hT hv hc hh hh1
  rw [foldAllG_plain _ _ hr] at h1
  exact h1

end Go.Proofs.YtcconhgbefhdeaaDoor
