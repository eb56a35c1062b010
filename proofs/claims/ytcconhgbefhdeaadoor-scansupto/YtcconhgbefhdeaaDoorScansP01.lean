import Derived.Test.YtcconhgbefhdeaaDoorScansP00
import Derived.LaidEql
import Derived.Stop.Asserts
import Derived.RowKitTokens
import Derived.Shelf.LaysM
import Derived.Shelf.Strconv.Clone
import Derived.Ground.Names2Prog
import Derived.Shelf.Slices.Clone
import Derived.Test.YtcconhgbefhdeaaDoorProg
import Derived.Deep.RegionHeld3
import Derived.Deep.DrawnRows
import Derived.Deep.RegionLaw
namespace Go.Proofs.YtcconhgbefhdeaaDoor
open Go.RowKit Go.Extern.Stop Go.Stop Go.Extern

theorem globals_count : Tryd.prog.globals.size = 2 := by kernel_rfl
theorem errorType_at : Tryd.prog.globalNamed "errors.errorType" = some 0 := by kernel_rfl

/-! The model's entries for reflectlite, at this program's types. -/
theorem as_valueOfPP (t : Addr) (w : World) : (ReflectliteValue.unpack (.iface 102 (.pointer (some t)))).run Tryd.prog w
    = .ok (.agg #[.pointer (some ⟨2, 102, none⟩), .pointer (some ⟨w.heap.size, 0, none⟩), .int .u64 150]) (w.alloc (.cells #[.pointer (some t)] 102)) := by kernel_rfl
theorem as_typePP (a : Addr) (w : World) : (ReflectliteValue.methodAny (ReflectliteValue.valueError "reflectlite.Value.Type" 0) (fun t _ _ _ => ReflectliteType.toType t) #[.agg #[.pointer (some ⟨2, 102, none⟩), .pointer (some a), .int .u64 150]]).run Tryd.prog w
    = .ok (.iface 154 (.agg #[.pointer (some ⟨2, 102, none⟩)])) w := by kernel_rfl
theorem as_kindPP (w : World) : ((ReflectliteType.abiMethod fun t => (fun a : Nat => Value.int IntKind.u8 (a : Int)) <$> Rtype.kind t) #[.pointer (some ⟨2, 102, none⟩)]).run Tryd.prog w = .ok (.int .u8 22) w := by kernel_rfl
theorem as_kindP (w : World) : ((ReflectliteType.abiMethod fun t => (fun a : Nat => Value.int IntKind.u8 (a : Int)) <$> Rtype.kind t) #[.pointer (some ⟨2, 100, none⟩)]).run Tryd.prog w = .ok (.int .u8 22) w := by kernel_rfl
theorem as_partsPP (a : Addr) (w : World) : (ReflectliteValue.parts (.agg #[.pointer (some ⟨2, 102, none⟩), .pointer (some a), .int .u64 150])).run Tryd.prog w = .ok (some (102, a, 150)) w := by kernel_rfl
theorem as_isNilPP (a p : Addr) (W : World) (ha : W.cell? a = some (.pointer (some p))) :
    (ReflectliteValue.method (ReflectliteValue.valueError "reflectlite.Value.IsNil" 0) ReflectliteValue.isNil #[.agg #[.pointer (some ⟨2, 102, none⟩), .pointer (some a), .int .u64 150]]).run Tryd.prog W = .ok (.bool false) W := by
  show (ReflectliteValue.parts (.agg #[.pointer (some ⟨2, 102, none⟩), .pointer (some a), .int .u64 150]) >>= _).run _ _ = _
  rw [Sem.run_bind, as_partsPP]
  simp only [Result.andThen]
  simp [ReflectliteValue.isNil, loadVar, isAgg, underlying, Tryd.underlying102, ha, Result.andThen]
theorem as_elemPP (w : World) : (ReflectliteType.method ReflectliteType.elem #[.agg #[.pointer (some ⟨2, 102, none⟩)]]).run Tryd.prog w = .ok (.iface 154 (.agg #[.pointer (some ⟨2, 100, none⟩)])) w := by kernel_rfl
theorem as_implementsP (w : World) : (ReflectliteType.relation "Implements" ReflectliteType.implements_ #[.agg #[.pointer (some ⟨2, 100, none⟩)], .iface 154 (.agg #[.pointer (some ⟨2, 44, none⟩)])]).run Tryd.prog w = .ok (.bool true) w := by kernel_rfl
theorem as_typeOfP (v : Value) (w : World) : (ReflectliteType.typeOf #[.iface 100 v]).run Tryd.prog w = .ok (.iface 154 (.agg #[.pointer (some ⟨2, 100, none⟩)])) w := by kernel_rfl
theorem as_typeOfR (v : Value) (w : World) : (ReflectliteType.typeOf #[.iface 150 v]).run Tryd.prog w = .ok (.iface 154 (.agg #[.pointer (some ⟨2, 150, none⟩)])) w := by kernel_rfl
theorem as_assignP (w : World) : (ReflectliteType.relation "AssignableTo" ReflectliteType.assignableTo #[.agg #[.pointer (some ⟨2, 100, none⟩)], .iface 154 (.agg #[.pointer (some ⟨2, 100, none⟩)])]).run Tryd.prog w = .ok (.bool true) w := by kernel_rfl
theorem as_assignR (w : World) : (ReflectliteType.relation "AssignableTo" ReflectliteType.assignableTo #[.agg #[.pointer (some ⟨2, 150, none⟩)], .iface 154 (.agg #[.pointer (some ⟨2, 100, none⟩)])]).run Tryd.prog w = .ok (.bool false) w := by kernel_rfl
theorem as_valueOfP (e : Addr) (w : World) : (ReflectliteValue.unpack (.iface 100 (.pointer (some e)))).run Tryd.prog w
    = .ok (.agg #[.pointer (some ⟨2, 100, none⟩), .pointer (some ⟨w.heap.size, 0, none⟩), .int .u64 150]) (w.alloc (.cells #[.pointer (some e)] 100)) := by kernel_rfl
theorem as_elemOfPP (w : World) : (Rtype.elem? 102).run Tryd.prog w = .ok (some 100) w := by kernel_rfl
theorem as_mkP (p : Addr) (w : World) : (ReflectliteValue.mk 100 p ReflectliteValue.flagAddr).run Tryd.prog w = .ok (.agg #[.pointer (some ⟨2, 100, none⟩), .pointer (some p), .int .u64 406]) w := by kernel_rfl
theorem as_elemVPP (a p : Addr) (W : World) (ha : W.cell? a = some (.pointer (some p))) :
    (ReflectliteValue.method (ReflectliteValue.valueError "reflectlite.Value.Elem" 0) ReflectliteValue.elem #[.agg #[.pointer (some ⟨2, 102, none⟩), .pointer (some a), .int .u64 150]]).run Tryd.prog W
      = .ok (.agg #[.pointer (some ⟨2, 100, none⟩), .pointer (some p), .int .u64 406]) W := by
  show (ReflectliteValue.parts (.agg #[.pointer (some ⟨2, 102, none⟩), .pointer (some a), .int .u64 150]) >>= _).run _ _ = _
  rw [Sem.run_bind, as_partsPP]
  simp only [Result.andThen]
  simp [ReflectliteValue.elem, loadVar, isAgg, underlying, Tryd.underlying102, ha, Result.andThen, as_elemOfPP, as_mkP]
theorem as_partsPa (a : Addr) (w : World) : (ReflectliteValue.parts (.agg #[.pointer (some ⟨2, 100, none⟩), .pointer (some a), .int .u64 406])).run Tryd.prog w = .ok (some (100, a, 406)) w := by kernel_rfl
theorem as_partsP (a : Addr) (w : World) : (ReflectliteValue.parts (.agg #[.pointer (some ⟨2, 100, none⟩), .pointer (some a), .int .u64 150])).run Tryd.prog w = .ok (some (100, a, 150)) w := by kernel_rfl
theorem as_directP (w : World) : (Rtype.directlyAssignable 100 100).run Tryd.prog w = .ok true w := by kernel_rfl
theorem as_noAsR (v : Value) (xT : TypeId) (w : World) : (Instr.typeAssert (.iface 150 v) xT 159 true).run Tryd.prog w = .ok (.tuple #[.nilIface, .bool false]) w := run_typeAssert_lacksB Tryd.underlying159 (by kernel_rfl) (by kernel_rfl) v xT w
theorem as_unwrapR (v : Value) (xT : TypeId) (w : World) : (Instr.typeAssert (.iface 150 v) xT 162 true).run Tryd.prog w = .ok (.tuple #[.iface 150 v, .bool true]) w := run_typeAssert_hasB Tryd.underlying162 (by kernel_rfl) v xT w

end Go.Proofs.YtcconhgbefhdeaaDoor

namespace Go.Proofs.YtcconhgbefhdeaaDoor
open Go.RowKit Go.Extern.Stop Go.Stop Go.Extern

set_option maxRecDepth 100000 in
theorem as_setP (ta b e : Addr) (old : Value) (W : World) (hb : W.cell? b = some (.pointer (some e))) (ht : W.cell? ta = some old) (hf : W.frozen? ta = false) :
    (ReflectliteValue.set #[.agg #[.pointer (some ⟨2, 100, none⟩), .pointer (some ta), .int .u64 406], .agg #[.pointer (some ⟨2, 100, none⟩), .pointer (some b), .int .u64 150]]).run Tryd.prog W
      = .ok (.tuple #[]) (W.setCell ta (.pointer (some e))) := by
  show (ReflectliteValue.parts (.agg #[.pointer (some ⟨2, 100, none⟩), .pointer (some ta), .int .u64 406]) >>= _).run _ _ = _
  rw [Sem.run_bind, as_partsPa]
  simp only [Result.andThen]
  rw [Sem.run_bind]
  show ((ReflectliteValue.parts (.agg #[.pointer (some ⟨2, 100, none⟩), .pointer (some b), .int .u64 150])).run _ _).andThen _ = _
  rw [as_partsP]
  simp only [Result.andThen]
  simp [ReflectliteValue.flagAddr, loadVar, isAgg, underlying, Tryd.underlying100, hb, Result.andThen, as_directP, storeVar, Value.cells, storeCells, Addr.add]
  rw [run_store Tryd.prog W ta _ _ (by rfl)]
  simp [ht, hf]

theorem as_methodKind (h : Value) (w : World) : (Go.method 312 154 (.agg #[h]) "Kind").run Tryd.prog w = .ok (113, h) w := by kernel_rfl
theorem as_methodElem (h : Value) (w : World) : (Go.method 312 154 (.agg #[h]) "Elem").run Tryd.prog w = .ok (125, .agg #[h]) w := by kernel_rfl
theorem as_methodImplements (h : Value) (w : World) : (Go.method 312 154 (.agg #[h]) "Implements").run Tryd.prog w = .ok (126, .agg #[h]) w := by kernel_rfl
theorem as_methodAssignable (h : Value) (w : World) : (Go.method 312 154 (.agg #[h]) "AssignableTo").run Tryd.prog w = .ok (123, .agg #[h]) w := by kernel_rfl
theorem as_methodUnwrap (p : Addr) (w : World) : (Go.method 312 150 (.pointer (some p)) "Unwrap").run Tryd.prog w = .ok (121, .pointer (some p)) w := by kernel_rfl

theorem ext_valueOf (args : Array Value) (w : World) : (callFunc 70 args).run Tryd.prog w = ((((fun args => ReflectliteValue.unpack (args.getD 0 (.tuple #[])))) args).run Tryd.prog w).andThen fun v w' => .ok (.value v) w' := run_callFunc_extern (e := fun args => ReflectliteValue.unpack (args.getD 0 (.tuple #[]))) Tryd.func70 (by kernel_rfl) (by kernel_rfl) (by kernel_rfl) (by kernel_rfl) args w
theorem ext_type (args : Array Value) (w : World) : (callFunc 71 args).run Tryd.prog w = ((((ReflectliteValue.methodAny (ReflectliteValue.valueError "reflectlite.Value.Type" 0) (fun t _ _ _ => ReflectliteType.toType t))) args).run Tryd.prog w).andThen fun v w' => .ok (.value v) w' := run_callFunc_extern Tryd.func71 (by kernel_rfl) (by kernel_rfl) (by kernel_rfl) (by kernel_rfl) args w
theorem ext_isNil (args : Array Value) (w : World) : (callFunc 72 args).run Tryd.prog w = ((((ReflectliteValue.method (ReflectliteValue.valueError "reflectlite.Value.IsNil" 0) ReflectliteValue.isNil)) args).run Tryd.prog w).andThen fun v w' => .ok (.value v) w' := run_callFunc_extern Tryd.func72 (by kernel_rfl) (by kernel_rfl) (by kernel_rfl) (by kernel_rfl) args w
theorem ext_kind (args : Array Value) (w : World) : (callFunc 113 args).run Tryd.prog w = ((((ReflectliteType.abiMethod fun t => do pure (.int .u8 (← Rtype.kind t)))) args).run Tryd.prog w).andThen fun v w' => .ok (.value v) w' := run_callFunc_extern Tryd.func113 (by kernel_rfl) (by kernel_rfl) (by kernel_rfl) (by kernel_rfl) args w
theorem ext_elem (args : Array Value) (w : World) : (callFunc 125 args).run Tryd.prog w = ((((ReflectliteType.method ReflectliteType.elem)) args).run Tryd.prog w).andThen fun v w' => .ok (.value v) w' := run_callFunc_extern Tryd.func125 (by kernel_rfl) (by kernel_rfl) (by kernel_rfl) (by kernel_rfl) args w
theorem ext_implements (args : Array Value) (w : World) : (callFunc 126 args).run Tryd.prog w = ((((ReflectliteType.relation "Implements" ReflectliteType.implements_)) args).run Tryd.prog w).andThen fun v w' => .ok (.value v) w' := run_callFunc_extern Tryd.func126 (by kernel_rfl) (by kernel_rfl) (by kernel_rfl) (by kernel_rfl) args w
theorem ext_typeOf (args : Array Value) (w : World) : (callFunc 82 args).run Tryd.prog w = (((ReflectliteType.typeOf) args).run Tryd.prog w).andThen fun v w' => .ok (.value v) w' := run_callFunc_extern Tryd.func82 (by kernel_rfl) (by kernel_rfl) (by kernel_rfl) (by kernel_rfl) args w
theorem ext_assignable (args : Array Value) (w : World) : (callFunc 123 args).run Tryd.prog w = ((((ReflectliteType.relation "AssignableTo" ReflectliteType.assignableTo)) args).run Tryd.prog w).andThen fun v w' => .ok (.value v) w' := run_callFunc_extern Tryd.func123 (by kernel_rfl) (by kernel_rfl) (by kernel_rfl) (by kernel_rfl) args w
theorem ext_elemV (args : Array Value) (w : World) : (callFunc 83 args).run Tryd.prog w = ((((ReflectliteValue.method (ReflectliteValue.valueError "reflectlite.Value.Elem" 0) ReflectliteValue.elem)) args).run Tryd.prog w).andThen fun v w' => .ok (.value v) w' := run_callFunc_extern Tryd.func83 (by kernel_rfl) (by kernel_rfl) (by kernel_rfl) (by kernel_rfl) args w
theorem ext_set (args : Array Value) (w : World) : (callFunc 84 args).run Tryd.prog w = (((ReflectliteValue.set) args).run Tryd.prog w).andThen fun v w' => .ok (.value v) w' := run_callFunc_extern Tryd.func84 (by kernel_rfl) (by kernel_rfl) (by kernel_rfl) (by kernel_rfl) args w

end Go.Proofs.YtcconhgbefhdeaaDoor

namespace Go.Proofs.YtcconhgbefhdeaaDoor
open Go.RowKit Go.Extern.Stop Go.Stop Go.Extern

set_option maxRecDepth 100000 in
set_option maxHeartbeats 4000000 in
theorem unwrap_any (eb : Nat) (v : Value) (w : World) (he1 : w.cell? ⟨eb, 1, none⟩ = some v) : Calls Tryd.prog 121 #[.pointer (some ⟨eb, 0, none⟩)] w fun e w' => e = .returned v ∧ w' = w := by
  go_enter Tryd.func121, Tryd.ntmps121
  go_wp2
  go_ret
  exact ⟨rfl, rfl⟩

set_option maxRecDepth 100000 in
set_option maxHeartbeats 4000000 in
theorem as_inner (eb vb : Nat) (f t : Addr) (old tgt : Value) (w : World) (ht0 : w.cell? t = some old) (hf0 : w.frozen? t = false)
    (he1 : w.cell? ⟨eb, 1, none⟩ = some (.iface 100 (.pointer (some f)))) (hv : w.cell? ⟨vb, 0, none⟩ = some (.pointer (some t))) :
    Calls Tryd.prog 73 #[.iface 150 (.pointer (some ⟨eb, 0, none⟩)), tgt, .agg #[.pointer (some ⟨2, 102, none⟩), .pointer (some ⟨vb, 0, none⟩), .int .u64 150], .iface 154 (.agg #[.pointer (some ⟨2, 100, none⟩)])] w
      fun ev w' => ev = .returned (.bool true) ∧ ∃ o1 o2, w' = ((w.alloc o1).alloc o2).setCell t (.pointer (some f)) := by
  have htl : t.block < w.heap.size := World.block_lt_of_cell? w t ht0
  have hvl : vb < w.heap.size := World.block_lt_of_cell? w ⟨vb, 0, none⟩ hv
  have hel : eb < w.heap.size := World.block_lt_of_cell? w ⟨eb, 1, none⟩ he1
  have x1 := ext_typeOf
  have x2 := ext_assignable
  have x3 := as_typeOfR
  have x4 := as_typeOfP
  have x5 := as_assignR
  have x6 := as_assignP
  have x7 := as_methodAssignable
  have x8 := as_noAsR
  have x9 := as_unwrapR
  have y0 := as_methodUnwrap
  go_enter Tryd.func73, Tryd.ntmps73
  go_wp2
  refine wp_loop_rounds 2 ?_
  rw [rounds_succ]
  go_wp2_with fail
  refine (unwrap_any eb (.iface 100 (.pointer (some f))) _ ((cell_alloc w _ eb 1 hel).trans he1)).mono ?_
  rintro e w' ⟨rfl, rfl⟩
  have z1 := ext_elemV
  have z2 := ext_set
  have z3 := ext_valueOf
  have z4 := as_valueOfP
  have el := as_elemVPP ⟨vb, 0, none⟩ t (w.alloc (.cells #[.pointer (some ⟨2, 102, none⟩), .pointer (some ⟨vb, 0, none⟩), .int .u64 150] 132)) ((cell_alloc w _ vb 0 hvl).trans hv)
  have st := as_setP t ⟨w.heap.size + 1, 0, none⟩ f old ((w.alloc (.cells #[.pointer (some ⟨2, 102, none⟩), .pointer (some ⟨vb, 0, none⟩), .int .u64 150] 132)).alloc (.cells #[.pointer (some f)] 100))
    (by rw [World.cell?_alloc_at _ _ _ _ (by simp)]; rfl)
    (by rw [World.cell?_alloc_lt _ _ t (by simp; omega), World.cell?_alloc_lt _ _ t htl]; exact ht0)
    (by rw [World.frozen?_alloc_old _ _ t (by simp; omega), World.frozen?_alloc_old _ _ t (Nat.ne_of_lt htl)]; exact hf0)
  go_wp2
  rw [rounds_succ]
  go_wp2
  go_ret
  exact ⟨rfl, _, _, rfl⟩

end Go.Proofs.YtcconhgbefhdeaaDoor

namespace Go.Proofs.YtcconhgbefhdeaaDoor
open Go.RowKit Go.Extern.Stop Go.Stop Go.Extern

/-- The one laid variable, as the walks read it. -/
def ErrType (w : World) : Prop := w.cell? ⟨0, 0, none⟩ = some (.iface 154 (.agg #[.pointer (some ⟨2, 44, none⟩)]))

theorem ErrType.lt {w : World} (h : ErrType w) : 0 < w.heap.size := World.block_lt_of_cell? w ⟨0, 0, none⟩ h
theorem ErrType.keep {w w' : World} (h : ErrType w) (hb : w'.heap[0]? = w.heap[0]?) : ErrType w' := (World.cell?_of_block (w := w) (a := ⟨0, 0, none⟩) hb).trans h
theorem ErrType.below {w w' : World} (h : ErrType w) (hb : Below w.heap.size w w') : ErrType w' := h.keep (hb.block 0 h.lt)

set_option maxRecDepth 100000 in
set_option maxHeartbeats 4000000 in
theorem as_hit (eb : Nat) (f t : Addr) (old : Value) (w : World) (hg : ErrType w) (ht0 : w.cell? t = some old) (hf0 : w.frozen? t = false)
    (he1 : w.cell? ⟨eb, 1, none⟩ = some (.iface 100 (.pointer (some f)))) :
    Calls Tryd.prog 48 #[.iface 150 (.pointer (some ⟨eb, 0, none⟩)), .iface 102 (.pointer (some t))] w
      fun ev w' => ev = .returned (.bool true) ∧ ∃ o1 o2 o3 o4, w' = ((((w.alloc o1).alloc o2).alloc o3).alloc o4).setCell t (.pointer (some f)) := by
  have htl : t.block < w.heap.size := World.block_lt_of_cell? w t ht0
  have hel : eb < w.heap.size := World.block_lt_of_cell? w ⟨eb, 1, none⟩ he1
  have h0 := hg.lt
  have hg2 : ∀ o1 o2, ((w.alloc o1).alloc o2).cell? ⟨0, 0, none⟩ = some (.iface 154 (.agg #[.pointer (some ⟨2, 44, none⟩)])) := fun o1 o2 => (cell_alloc _ _ 0 0 (by simp)).trans ((cell_alloc _ _ 0 0 h0).trans hg)
  have x1 := ext_valueOf
  have x2 := ext_type
  have x3 := ext_isNil
  have x4 := ext_kind
  have x5 := ext_elem
  have x6 := ext_implements
  have x7 := as_valueOfPP
  have x8 := as_typePP
  have x9 := as_methodKind
  have y1 := as_methodElem
  have y2 := as_methodImplements
  have y3 := as_kindPP
  have y4 := as_kindP
  have y5 := as_elemPP
  have y6 := as_implementsP
  have n8 := as_isNilPP ⟨w.heap.size, 0, none⟩ t ((w.alloc (.cells #[.pointer (some t)] 102)).alloc (.cells #[.pointer (some ⟨2, 102, none⟩), .pointer (some ⟨w.heap.size, 0, none⟩), .int .u64 150] 132)) (by simp)
  go_enter Tryd.func48, Tryd.ntmps48
  go_wp2_with fail
  refine (as_inner eb w.heap.size f t old _ _ ((World.cell?_alloc_lt _ _ t (by simp; omega)).trans ((World.cell?_alloc_lt _ _ t htl).trans ht0)) ((World.frozen?_alloc_old _ _ t (by simp; omega)).trans ((World.frozen?_alloc_old _ _ t (Nat.ne_of_lt htl)).trans hf0)) ((cell_alloc _ _ eb 1 (by simp; omega)).trans ((cell_alloc _ _ eb 1 hel).trans he1)) (by simp)).mono ?_
  rintro e w' ⟨rfl, o1, o2, rfl⟩
  go_wp2
  go_ret
  exact ⟨rfl, _, _, _, _, rfl⟩

end Go.Proofs.YtcconhgbefhdeaaDoor

namespace Go.Proofs.YtcconhgbefhdeaaDoor
open Go.RowKit
attribute [local go_sem ↓] Go.wp_at_zero Go.wp_at_succ

/-- The types of columns, as they lie in memory. -/
def KindsIn (w : World) (g : Nat) (ks : List Int) : Prop := ∀ i (h : i < ks.length), w.cell? ⟨g, i, none⟩ = some (.int .i64 ks[i])

theorem KindsIn.keep {w w' : World} {g : Nat} {ks : List Int} (h : KindsIn w g ks) (hb : w'.heap[g]? = w.heap[g]?) : KindsIn w' g ks := fun i hi =>
  (World.cell?_of_block (w := w) (a := ⟨g, _, none⟩) hb).trans (h i hi)
theorem KindsIn.lt {w : World} {g : Nat} {ks : List Int} (h : KindsIn w g ks) (hr : 0 < ks.length) : g < w.heap.size :=
  World.block_lt_of_cell? w ⟨g, 0, none⟩ (h 0 hr)

/-- A row that fits. -/
def FitsRow (ks : List Int) (r : List (Int × ByteArray)) : Prop := r.length = ks.length ∧ ∀ i (h : i < ks.length) (h' : i < r.length), fitsB ks[i] r[i].1 r[i].2 = true

set_option maxHeartbeats 400000 in
theorem check_ok (bs sc scap : Nat) (ks : List Int) (r : List (Int × ByteArray)) (g cap : Nat) (w : World) (hs : w.cell? ⟨bs, 0, none⟩ = some (.slice (some ⟨sc, 0, none⟩) ks.length scap)) (hks : KindsIn w sc ks)
    (hin : RowIn w g r) (hr : r.length ≤ 1000) (hfit : FitsRow ks r) :
    Calls Tryd.prog 65 #[.pointer (some ⟨bs, 0, none⟩), .slice (some ⟨g, 0, none⟩) r.length cap] w fun e w' => e = .returned .nilIface ∧ Below w.heap.size w w' := by
  have hbs : bs < w.heap.size := World.block_lt_of_cell? w ⟨bs, 0, none⟩ hs
  have hlen : ks.length = r.length := hfit.1.symm
  have hne : ((r.length : Int) == (r.length : Int)) = true := by simp
  rw [hlen] at hs
  go_enter Tryd.func65, Tryd.ntmps65
  go_wp2_with fail
  go_loopw [18] (fun i wr => ∃ k : Nat, k ≤ r.length ∧ i = .int .i64 k ∧ Below w.heap.size w wr) (fun i _ => r.length - (intOf i).toNat)
  case atStart => exact ⟨0, Nat.zero_le _, rfl, Below.refl _ _⟩
  case round =>
    obtain ⟨k, hk, rfl, hB⟩ := hrel
    by_cases hlt : k < r.length
    · have hg : g < w.heap.size := hin.lt (by omega)
      have hsc : sc < w.heap.size := hks.lt (by omega)
      obtain ⟨c1, c2⟩ := hin k hlt
      have hz := hB.size
      have d1 : wr.cell? ⟨g, k * 2, none⟩ = some (.int .i64 r[k].1) := (hB.cell (p := ⟨g, k * 2, none⟩) hg).trans c1
      have d2 : wr.cell? ⟨g, k * 2 + 1, none⟩ = some (.string r[k].2) := (hB.cell (p := ⟨g, k * 2 + 1, none⟩) hg).trans c2
      have d3 : wr.cell? ⟨bs, 0, none⟩ = some (.slice (some ⟨sc, 0, none⟩) r.length scap) := (hB.cell (p := ⟨bs, 0, none⟩) hbs).trans hs
      have d4 : wr.cell? ⟨sc, k, none⟩ = some (.int .i64 (ks[k]'(by omega))) := (hB.cell (p := ⟨sc, k, none⟩) hsc).trans (hks k (by omega))
      have hf : fitsB (ks[k]'(by omega)) r[k].1 r[k].2 = true := hfit.2 k (by omega) hlt
      have hk0 : (0 : Int) ≤ (k : Int) := by omega
      have hk1 : (k : Int) < (r.length : Int) := by omega
      generalize ks[k]'(by omega) = kk at d4 hf
      have n1 := World.new_ne _ _ d3
      have n2 := World.new_ne _ _ d4
      clear c1 c2
      go_wp2_with fail
      go_region_held3 (fun w' => w'.cell? ⟨wr.heap.size, 0, none⟩ = some (.int .i64 r[k].1) ∧ w'.cell? ⟨wr.heap.size, 1, none⟩ = some (.string r[k].2) ∧ w'.cell? ⟨bs, 0, none⟩ = some (.slice (some ⟨sc, 0, none⟩) r.length scap) ∧ w'.cell? ⟨sc, k, none⟩ = some (.int .i64 kk)) (go_keep)
        (first | (go_at_call 80; refine (fits_any _ _ _ _).mono ?_; rintro e w1 ⟨rfl, rfl⟩))
      go_wp2
      go_roundw
      case rel => exact ⟨k + 1, by omega, by go_num, (((hB.alloc (by omega) _).alloc (by simp; omega) _)).drew⟩
      case measure => simp [intOf]; omega
    · go_wp2
      go_ret
      exact ⟨rfl, hB⟩

end Go.Proofs.YtcconhgbefhdeaaDoor

namespace Go.Proofs
open Go.Shelf
def Tryd.laysM316_ren : Go.Shelf.Ren := ⟨fun | 316 => 81 | n => n, fun | 9 => 9 | 3 => 3 | 4 => 4 | 37 => 173 | 0 => 0 | 127 => 174 | 5 => 5 | n => n, fun | n => n⟩
theorem Tryd.laysM316 : Go.Proofs.LaysM.n316 Tryd.prog Tryd.laysM316_ren := {
  mixed := by kernel_rfl
  f316 := Tryd.func81.trans (congrArg some (by kernel_rfl))
  t0 := Tryd.underlying0
  a0 := Tryd.isAgg0
  z0 := Tryd.sizeOf0
  v0 := Tryd.zeroValue0
  t3 := Tryd.underlying3
  a3 := Tryd.isAgg3
  z3 := Tryd.sizeOf3
  v3 := Tryd.zeroValue3
  t4 := Tryd.underlying4
  a4 := Tryd.isAgg4
  z4 := Tryd.sizeOf4
  v4 := Tryd.zeroValue4
  t9 := Tryd.underlying9
  a9 := Tryd.isAgg9
  z9 := Tryd.sizeOf9
  v9 := Tryd.zeroValue9
  t37 := Tryd.underlying173
  a37 := Tryd.isAgg173
  z37 := Tryd.sizeOf173
  v37 := Tryd.zeroValue173
  t127 := Tryd.underlying174
  a127 := Tryd.isAgg174
  z127 := Tryd.sizeOf174
  v127 := Tryd.zeroValue174
  t5 := Tryd.underlying5
  a5 := Tryd.isAgg5
  z5 := Tryd.sizeOf5
  v5 := Tryd.zeroValue5
  i0 := by kernel_rfl
  i3 := by kernel_rfl
  i4 := by kernel_rfl
  i5 := by kernel_rfl
  i9 := by kernel_rfl
  i37 := by kernel_rfl
  i127 := by kernel_rfl }
open Go.RowKit in
theorem Tryd.stringslite_Clone (s : ByteArray) (w : World) (hlim : s.size ≤ 281474976710656) :
    Calls Tryd.prog 81 #[.string s] w fun e w' => e = .returned (.string s) ∧ Below w.heap.size w w' := Any.stringslite_Clone Tryd.laysM316 s w hlim
def Tryd.laysNm215_ren : Go.Shelf.Ren := ⟨fun | 15 => 64 | n => n, fun | 22 => 24 | 3 => 3 | 4 => 4 | n => n, fun | n => n⟩
theorem Tryd.laysNm215 : Go.Proofs.Lays2.n15 Tryd.prog Tryd.laysNm215_ren := {
  mixed := by kernel_rfl
  f15 := Tryd.func64.trans (congrArg some (by kernel_rfl))
  t3 := Tryd.underlying3
  a3 := Tryd.isAgg3
  z3 := Tryd.sizeOf3
  v3 := Tryd.zeroValue3
  t4 := Tryd.underlying4
  a4 := Tryd.isAgg4
  z4 := Tryd.sizeOf4
  v4 := Tryd.zeroValue4
  t22 := Tryd.underlying24
  a22 := Tryd.isAgg24
  z22 := Tryd.sizeOf24
  v22 := Tryd.zeroValue24
  i3 := by kernel_rfl }
open Go.RowKit Go.Lib in
theorem Tryd.slices_Clone_int (b off n c : Nat) (zs : List Int) (w : World) (hz : n ≤ zs.length) (hbig : n * 8 ≤ 140737488355328) (hc : ∀ j, j < zs.length → w.cell? ⟨b, off + j, none⟩ = some (.int .i64 (zs.getD j 0))) :
    Calls Tryd.prog 64 #[.slice (some ⟨b, off, none⟩) n c] w fun e w' => ∃ v', e = .returned v' ∧ w'.ownsRow w.heap.size 3 1 v' n ((zs.take n).map (Value.int .i64)) ∧ v' ≠ .slice none 0 0 ∧ Below w.heap.size w w' := Any.slices_Clone_int Tryd.laysNm215 b off n c zs w hz hbig hc
open Go.RowKit Go.Lib in
theorem Tryd.slices_Clone_int_nil (n c : Nat) (w : World) :
    Calls Tryd.prog 64 #[.slice none n c] w fun e w' => e = .returned (.slice none 0 0) ∧ w' = w := Any.slices_Clone_int_nil Tryd.laysNm215 n c w
open Go.RowKit Go.Lib in
theorem Tryd.slices_Clone_int_zero (a : Addr) (c : Nat) (w : World) :
    Calls Tryd.prog 64 #[.slice (some a) 0 c] w fun e w' => ∃ v', e = .returned v' ∧ w'.ownsRow w.heap.size 3 1 v' 0 [] ∧ v' ≠ .slice none 0 0 ∧ Below w.heap.size w w' := Any.slices_Clone_int_zero Tryd.laysNm215 a c w
end Go.Proofs

namespace Go.Proofs.YtcconhgbefhdeaaDoor
open Go.RowKit
attribute [local go_sem ↓] Go.wp_at_zero Go.wp_at_succ

set_option maxHeartbeats 400000 in
theorem clone_any (s : ByteArray) (w : World) (hlim : s.size ≤ 281474976710656) :
    Calls Tryd.prog 69 #[.string s] w fun e w' => e = .returned (.string s) ∧ Below w.heap.size w w' := by
  go_enter Tryd.func69, Tryd.ntmps69
  go_wp2_with (go_at_call 81; refine (Tryd.stringslite_Clone _ _ hlim).mono ?_; rintro e w' ⟨rfl, hb⟩)
  go_ret
  exact ⟨rfl, hb⟩

theorem info_value : (Tryd.prog.info? 30).map (fun i => (i.zero, i.size, i.bytes)) = some (some (.agg #[.int .i64 0, .string ⟨#[]⟩]), 2, 24) := by kernel_rfl

theorem make_values (n : Nat) (hn : n ≤ 1000000) : ∃ M : Array Value, M.size = 2 * n ∧ ∀ W : World, (Instr.makeSlice 25 (.int .i64 (n : Int)) (.int .i64 (n : Int))).run Tryd.prog W = .ok (.slice (some ⟨W.heap.size, 0, none⟩) n n) (W.alloc (.cells M 30)) := by
  obtain ⟨i, hi, hz, h2, h24⟩ := info_parts info_value
  refine ⟨madeCells (Value.agg #[.int .i64 0, .string ⟨#[]⟩]).cells (((n : Nat) : Int).toNat * i.size), ?_, fun W => ?_⟩
  · rw [size_madeCells, h2]; omega
  · have h := run_make (P := Tryd.prog) W 25 30 i _ Tryd.underlying25 hi hz .i64 .i64 (n : Int) (n : Int) (by omega) (by omega) (by rw [h24]; omega) (by omega)
    simpa using h

set_option maxHeartbeats 400000 in
theorem apart_any (r : List (Int × ByteArray)) (g cap : Nat) (w : World) (hin : RowIn w g r) (hr : r.length ≤ 1000) (hs : ∀ p ∈ r, p.2.size ≤ 1000000) :
    Calls Tryd.prog 47 #[.slice (some ⟨g, 0, none⟩) r.length cap] w fun e w' => e = .returned (.slice (some ⟨w.heap.size, 0, none⟩) r.length r.length) ∧
      w'.heap[w.heap.size]? = some (.cells (vcells r).toArray 30 (0, 0)) ∧ Below w.heap.size w w' := by
  obtain ⟨M, hMs, hmk⟩ := make_values r.length (by omega)
  go_enter Tryd.func47, Tryd.ntmps47
  go_wp2_with fail
  go_loopw [11] (fun i wr => ∃ k : Nat, k ≤ r.length ∧ i = .int .i64 k ∧ Below w.heap.size w wr ∧ ∃ cur : Array Value, wr.heap[w.heap.size]? = some (.cells cur 30 (0, 0)) ∧ cur.size = 2 * r.length ∧ cur.toList.take (2 * k) = vcells (r.take k)) (fun i _ => r.length - (intOf i).toNat)
  case atStart => exact ⟨0, Nat.zero_le _, rfl, (Below.refl _ _).alloc (Nat.le_refl _) _, M, heap_alloc_new w _, hMs, by simp [vcells]⟩
  case round =>
    obtain ⟨k, hk, rfl, hB, cur, hcur, hsz, htk⟩ := hrel
    by_cases hlt : k < r.length
    · have hg : g < w.heap.size := hin.lt (by omega)
      obtain ⟨c1, c2⟩ := hin k hlt
      have hz : w.heap.size < wr.heap.size := by
        rcases Nat.lt_or_ge w.heap.size wr.heap.size with h | h
        · exact h
        · rw [Array.getElem?_eq_none h] at hcur; cases hcur
      have d1 : wr.cell? ⟨g, k * 2, none⟩ = some (.int .i64 r[k].1) := (hB.cell (p := ⟨g, k * 2, none⟩) hg).trans c1
      have d2 : wr.cell? ⟨g, k * 2 + 1, none⟩ = some (.string r[k].2) := (hB.cell (p := ⟨g, k * 2 + 1, none⟩) hg).trans c2
      have hsk : r[k].2.size ≤ 281474976710656 := by have := hs r[k] (List.getElem_mem hlt); omega
      clear c1 c2
      obtain ⟨x1, e1⟩ : ∃ x, wr.cell? ⟨w.heap.size, k * 2, none⟩ = some x := by
        rw [cell_of_row _ _ _ _ _ _ hcur]; exact ⟨_, Array.getElem?_eq_getElem (by omega)⟩
      obtain ⟨x2, e2⟩ : ∃ x, wr.cell? ⟨w.heap.size, k * 2 + 1, none⟩ = some x := by
        rw [cell_of_row _ _ _ _ _ _ hcur]; exact ⟨_, Array.getElem?_eq_getElem (by omega)⟩
      have f1 : wr.frozen? ⟨w.heap.size, k * 2, none⟩ = false := by simp [World.frozen?, hcur]
      have f2 : wr.frozen? ⟨w.heap.size, k * 2 + 1, none⟩ = false := by simp [World.frozen?, hcur]
      have hz2 : w.heap.size < wr.heap.size + 1 := by omega
      have hz3 : w.heap.size ≤ wr.heap.size := by omega
      have hz4 : ¬ wr.heap.size = w.heap.size := by omega
      have hz5 : ¬ w.heap.size = wr.heap.size := by omega
      have hk0 : (0 : Int) ≤ (k : Int) := by omega
      have hk1 : (k : Int) < (r.length : Int) := by omega
      go_wp2_with fail
      go_region_held3 (fun w' => w'.cell? ⟨wr.heap.size, 0, none⟩ = some (.int .i64 r[k].1) ∧ w'.cell? ⟨wr.heap.size, 1, none⟩ = some (.string r[k].2)) (simp [*, World.cell?_setCell_far])
        (first | (go_at_call 69; refine (clone_any _ _ hsk).mono ?_; rintro e w1 ⟨rfl, hb⟩; obtain ⟨hc, hf⟩ := bcell hb
                  have g1 : w1.cell? ⟨w.heap.size, k * 2, none⟩ = some x1 := by rw [hc _ _ (by simp; omega)]; simp [e1, World.cell?_alloc_some]
                  have g2 : w1.cell? ⟨w.heap.size, k * 2 + 1, none⟩ = some x2 := by rw [hc _ _ (by simp; omega)]; simp [e2, World.cell?_alloc_some]
                  have g3 : w1.frozen? ⟨w.heap.size, k * 2, none⟩ = false := by rw [hf _ _ (by simp; omega)]; simp [f1, frozen_alloc, hz]
                  have g4 : w1.frozen? ⟨w.heap.size, k * 2 + 1, none⟩ = false := by rw [hf _ _ (by simp; omega)]; simp [f2, frozen_alloc, hz]))
      have hw1 : w1.heap[w.heap.size]? = some (.cells cur 30 (0, 0)) := (hb.block _ (by simp; omega)).trans ((Below.heap_alloc _ _ _ hz).trans hcur)
      have hB1 : Below w.heap.size w w1 := (hB.alloc (by omega) _).drew.trans (hb.mono (by simp; omega))
      clear hc hf g1 g2 g3 g4 hb
      go_wp2
      go_roundw
      case rel =>
        refine ⟨k + 1, by omega, by go_num, (hB1.setCell (Nat.le_refl _) _).setCell (Nat.le_refl _) _, _, heap_setCell_same _ _ _ _ _ _ (heap_setCell_same _ _ _ _ _ _ hw1), by simpa using hsz, ?_⟩
        rw [Array.toList_setIfInBounds, Array.toList_setIfInBounds, take_set2 _ _ _ _ (by rw [Array.length_toList]; omega), htk, vcells_take_succ r k hlt]
      case measure => simp [intOf]; omega
    · go_wp2
      go_ret
      have : k = r.length := by omega
      subst this
      refine ⟨rfl, ?_, hB⟩
      rw [hcur]
      have e : cur.toList = vcells r := by
        rw [List.take_of_length_le (by rw [Array.length_toList]; omega), List.take_length] at htk; exact htk
      rw [← e]

end Go.Proofs.YtcconhgbefhdeaaDoor

namespace Go.Proofs.YtcconhgbefhdeaaDoor
open Go.RowKit
attribute [local go_sem ↓] Go.wp_at_zero Go.wp_at_succ

/-- A row with the block in which it lies, as a value. -/
def rval (p : Nat × List (Int × ByteArray)) : Value := .slice (some ⟨p.1, 0, none⟩) p.2.length p.2.length

def RowBlk (w : World) (p : Nat × List (Int × ByteArray)) : Prop := w.heap[p.1]? = some (.cells (vcells p.2).toArray 30 (0, 0))

theorem RowBlk.lt {w : World} {p : Nat × List (Int × ByteArray)} (h : RowBlk w p) : p.1 < w.heap.size := (Array.getElem?_eq_some_iff.1 h).1
theorem RowBlk.rowIn {w : World} {p : Nat × List (Int × ByteArray)} (h : RowBlk w p) : RowIn w p.1 p.2 :=
  RowIn.of_block h (by rw [List.toList_toArray, ← vcells_length, List.take_length])

/-- A list of rows that the call owns. -/
structure RowsAt (w : World) (base : Nat) (v : Value) (L : List (Nat × List (Int × ByteArray))) : Prop where
  own : w.ownsRow base 25 1 v L.length (L.map rval)
  blk : ∀ p ∈ L, base ≤ p.1 ∧ RowBlk w p

theorem RowsAt.keep {w w' : World} {base : Nat} {v : Value} {L : List (Nat × List (Int × ByteArray))} (h : RowsAt w base v L) 
    (hb : ∀ k t, base ≤ k → k < w.heap.size → (∃ cs fr, w.heap[k]? = some (.cells cs t fr)) → (t = 25 → v.ownBlock = some k) → (t = 25 ∨ t = 30) → w'.heap[k]? = w.heap[k]?) : RowsAt w' base v L := by
  refine ⟨⟨h.own.1, ?_⟩, fun p hp => ?_⟩
  · rcases h.own.2 with h1 | ⟨g, cap, cur, hv, hg, hh, rest⟩
    · exact .inl h1
    · refine .inr ⟨g, cap, cur, hv, hg, ?_, rest⟩
      rw [hb g 25 hg (Array.getElem?_eq_some_iff.1 hh).1 ⟨_, _, hh⟩ (fun _ => by rw [hv]; rfl) (.inl rfl)]
      exact hh
  · obtain ⟨h1, h2⟩ := h.blk p hp
    refine ⟨h1, ?_⟩
    unfold RowBlk at h2 ⊢
    rw [hb p.1 30 h1 (Array.getElem?_eq_some_iff.1 h2).1 ⟨_, _, h2⟩ (fun e => by cases e) (.inr rfl)]
    exact h2

structure StoreAt (w : World) (base bs : Nat) (ks : List Int) (L : List (Nat × List (Int × ByteArray))) (sv fv : Value) : Prop where
  blk : w.heap[bs]? = some (.cells #[sv, fv] 96 (0, 0))
  lo : base ≤ bs
  sch : w.ownsRow base 3 1 sv ks.length (ks.map (Value.int .i64))
  rows : RowsAt w base fv L

theorem StoreAt.kinds {w : World} {base bs : Nat} {ks : List Int} {L : List (Nat × List (Int × ByteArray))} {sv fv : Value} (h : StoreAt w base bs ks L sv fv) (hk : 0 < ks.length) :
    ∃ sc scap, sv = .slice (some ⟨sc, 0, none⟩) ks.length scap ∧ KindsIn w sc ks ∧ base ≤ sc ∧ (∃ cs, w.heap[sc]? = some (.cells cs 3 (0, 0))) := by
  rcases h.sch.2 with ⟨_, h0⟩ | ⟨g, cap, cur, hv, hg, hh, h1, h2, h3, h4⟩
  · omega
  · refine ⟨g, cap, hv, fun i hi => ?_, hg, _, hh⟩
    have := h.sch.cells (g := g) (by rw [hv]; rfl) i (.int .i64 ks[i]) (by simp [hi])
    have hadd : (⟨g, 0, none⟩ : Addr).add i = ⟨g, i, none⟩ := by unfold Addr.add; split <;> simp_all
    rw [hadd] at this
    exact this

theorem grownBy_below {w w' : World} (h : Below w.heap.size w w') : w.grownBy w' none := ⟨h.os, h.tape, h.output, h.size, fun k hk _ => h.block k hk⟩
theorem ownsRow_below {w w' : World} {base : Nat} {e : TypeId} {size : Nat} {v : Value} {n : Nat} {xs : List Value} (h : w.ownsRow base e size v n xs) (hb : Below w.heap.size w w') : w'.ownsRow base e size v n xs :=
  h.kept (grownBy_below hb) (by cases v.ownBlock <;> simp)
theorem ownsRow_drew {w : World} {base : Nat} {e : TypeId} {size : Nat} {v : Value} {n : Nat} {xs : List Value} (h : w.ownsRow base e size v n xs) : w.drew.ownsRow base e size v n xs := h

theorem info_row : (Tryd.prog.info? 25).map (fun i => (i.zero, i.size, i.bytes)) = some (some (.slice none 0 0), 1, 24) := by kernel_rfl

theorem append_close {base bs : Nat} {ks : List Int} {L : List (Nat × List (Int × ByteArray))} {sv : Value} {fa : Option Addr} {n fc : Nat} {r : List (Int × ByteArray)} {w w1 w2 w3 : World} {o : Obj} {gg cp : Nat}
    (h : StoreAt w base bs ks L sv (.slice fa n fc)) (hn : L.length = n) (hbase : base ≤ w.heap.size) (hb1 : Below w.heap.size w w1)
    (hblk : w2.heap[w1.heap.size]? = some (.cells (vcells r).toArray 30 (0, 0))) (hb2 : Below w1.heap.size w1.drew w2)
    (hown : w3.ownsRow base 25 1 (.slice (some ⟨gg, 0, none⟩) (n + 1) cp) (n + 1) (L.map rval ++ [.slice (some ⟨w1.heap.size, 0, none⟩) r.length r.length]))
    (hgrow : (w2.alloc o).grownBy w3 (Value.slice fa n fc).ownBlock) (hat : (Value.slice fa n fc).ownBlock = some gg ∨ gg = w2.heap.size + 1) :
    ∃ fv' g', StoreAt (w3.setCell ⟨bs, 1, none⟩ (.slice (some ⟨gg, 0, none⟩) (n + 1) cp)) base bs ks (L ++ [(g', r)]) sv fv' ∧ w.heap.size ≤ g' ∧
      Fr (bs :: (Value.slice fa n fc).ownBlock.toList) w (w3.setCell ⟨bs, 1, none⟩ (.slice (some ⟨gg, 0, none⟩) (n + 1) cp)) ∧ (fv'.ownBlock = (Value.slice fa n fc).ownBlock ∨ ∃ k, fv'.ownBlock = some k ∧ w.heap.size ≤ k) := by
  have s1 := hb1.size
  have s2 : w1.heap.size ≤ w2.heap.size := hb2.size
  have hb2' : Below w1.heap.size w1 w2 := ⟨hb2.os, hb2.tape, hb2.output, hb2.size, hb2.block⟩
  have hbs : bs < w.heap.size := (Array.getElem?_eq_some_iff.1 h.blk).1
  -- the frame up to w3
  have hF : Fr (Value.slice fa n fc).ownBlock.toList w w3 := by
    refine ((Fr.of_below (S := (Value.slice fa n fc).ownBlock.toList) hb1).then hb2').alloc o |>.grown hgrow (fun k hk => ?_)
    left; rw [hk]; simp
  have hnb : bs ∉ (Value.slice fa n fc).ownBlock.toList := by
    intro hm
    have e : (Value.slice fa n fc).ownBlock = some bs := by simpa using hm
    rcases h.rows.own.2 with ⟨h1, _⟩ | ⟨gg, cp, cur, h1, _, h2, _⟩
    · rw [h1] at e; cases e
    · rw [h1] at e
      simp only [Value.ownBlock, Option.some.injEq] at e
      rw [e, h.blk] at h2
      simp at h2
  have hgb : gg ≠ bs := by
    rintro rfl
    rcases hat with h1 | h1
    · exact hnb (by rw [h1]; simp)
    · have : w2.heap.size + 1 < w.heap.size := by omega
      omega
  have hb3 : w3.heap[bs]? = some (.cells #[sv, .slice fa n fc] 96 (0, 0)) := (hF.block bs hbs hnb).trans h.blk
  refine ⟨.slice (some ⟨gg, 0, none⟩) (n + 1) cp, w1.heap.size, ⟨?_, h.lo, ?_, ?_⟩, s1, (hF.mono (T := bs :: (Value.slice fa n fc).ownBlock.toList) (fun i hi => List.mem_cons_of_mem _ hi)).setCell (p := ⟨bs, 1, none⟩) (.inl (List.mem_cons_self (a := bs))) _, ?_⟩
  · exact heap_setCell_same _ _ _ _ _ _ hb3
  · -- the schema
    refine World.ownsRow.kept (w := w3) ?_ (row := some bs) ⟨rfl, rfl, rfl, by simp [World.setCell], fun k hk hne => heap_setCell_other _ _ _ _ (fun e => hne (by rw [e]))⟩ ?_
    · refine ⟨h.sch.1, ?_⟩
      rcases h.sch.2 with h1 | ⟨g, cap, cur, hv, hg, hh, rest⟩
      · exact .inl h1
      · refine .inr ⟨g, cap, cur, hv, hg, ?_, rest⟩
        rw [hF.block g (Array.getElem?_eq_some_iff.1 hh).1 ?_]
        · exact hh
        · intro hm
          have e : (Value.slice fa n fc).ownBlock = some g := by simpa using hm
          rcases h.rows.own.2 with ⟨h1, _⟩ | ⟨gg, cp, cur, h1, _, h2, _⟩
          · rw [h1] at e; cases e
          · rw [h1] at e
            simp only [Value.ownBlock, Option.some.injEq] at e
            rw [e, hh] at h2
            simp at h2
    · rcases h.sch.2 with ⟨h1, _⟩ | ⟨g, cap, cur, hv, hg, hh, rest⟩
      · left; rw [h1]; rfl
      · right; rw [hv]; simp only [Value.ownBlock]; intro e
        simp only [Option.some.injEq] at e
        rw [e, h.blk] at hh
        simp at hh
  · -- the rows
    refine ⟨?_, ?_⟩
    · have : (L ++ [(w1.heap.size, r)]).length = n + 1 := by simp [hn]
      rw [this, List.map_append]
      refine World.ownsRow.kept (w := w3) hown (row := some bs) ⟨rfl, rfl, rfl, by simp [World.setCell], fun k hk hne => heap_setCell_other _ _ _ _ (fun e => hne (by rw [e]))⟩ (.inr ?_)
      simp only [Value.ownBlock]; intro e; simp only [Option.some.injEq] at e; exact hgb e
    · intro p hp
      rcases List.mem_append.1 hp with hp | hp
      · obtain ⟨h1, h2⟩ := h.rows.blk p hp
        refine ⟨h1, ?_⟩
        unfold RowBlk at h2 ⊢
        have hlt : p.1 < w.heap.size := (Array.getElem?_eq_some_iff.1 h2).1
        have hne : p.1 ≠ bs := by intro e; rw [e, h.blk] at h2; simp at h2
        rw [heap_setCell_other _ _ _ _ hne, hF.block p.1 hlt ?_]
        · exact h2
        · intro hm
          have e : (Value.slice fa n fc).ownBlock = some p.1 := by simpa using hm
          rcases h.rows.own.2 with ⟨h1, _⟩ | ⟨gg, cp, cur, h1, _, h3, _⟩
          · rw [h1] at e; cases e
          · rw [h1] at e
            simp only [Value.ownBlock, Option.some.injEq] at e
            rw [e, h2] at h3
            simp at h3
      · have e : p = (w1.heap.size, r) := by simpa using hp
        subst e
        refine ⟨by simp; omega, ?_⟩
        unfold RowBlk
        have hne : w1.heap.size ≠ bs := by omega
        rw [heap_setCell_other _ _ _ _ hne]
        have hz2 : w1.heap.size < w2.heap.size := (Array.getElem?_eq_some_iff.1 hblk).1
        rw [hgrow.block w1.heap.size (by simp; omega) ?_, Below.heap_alloc _ _ _ hz2]
        · exact hblk
        · intro e
          rcases h.rows.own.lt w1.heap.size e.symm with ⟨_, h2⟩
          omega
  · simp only [Value.ownBlock] at hat ⊢
    rcases hat with h1 | h1
    · left; rw [h1]
    · right; exact ⟨gg, rfl, by omega⟩

set_option maxRecDepth 100000 in
set_option maxHeartbeats 1000000 in
theorem storeAppend_ok (base bs : Nat) (ks : List Int) (L : List (Nat × List (Int × ByteArray))) (sv fv : Value) (r : List (Int × ByteArray)) (g cap : Nat) (w : World) (h : StoreAt w base bs ks L sv fv) (hbase : base ≤ w.heap.size)
    (hL : L.length < 1000) (hin : RowIn w g r) (hk : 0 < ks.length) (hr : r.length ≤ 1000) (hfit : FitsRow ks r) (hs : ∀ p ∈ r, p.2.size ≤ 1000000) :
    Calls Tryd.prog 44 #[.pointer (some ⟨bs, 0, none⟩), .slice (some ⟨g, 0, none⟩) r.length cap] w fun e w' => e = .returned .nilIface ∧
      ∃ fv' g', StoreAt w' base bs ks (L ++ [(g', r)]) sv fv' ∧ w.heap.size ≤ g' ∧ Fr (bs :: fv.ownBlock.toList) w w' ∧ (fv'.ownBlock = fv.ownBlock ∨ ∃ k, fv'.ownBlock = some k ∧ w.heap.size ≤ k) := by
  obtain ⟨i0, hi0, hz0, hz1, hz2⟩ := info_parts info_row
  obtain ⟨sc, scap, rfl, hkin, hsc, scs, hscs⟩ := h.kinds hk
  have hbs : bs < w.heap.size := (Array.getElem?_eq_some_iff.1 h.blk).1
  have c0 : w.cell? ⟨bs, 0, none⟩ = some (.slice (some ⟨sc, 0, none⟩) ks.length scap) := by rw [cell_of_row _ _ _ _ _ _ h.blk]; rfl
  have c1 : w.cell? ⟨bs, 1, none⟩ = some fv := by rw [cell_of_row _ _ _ _ _ _ h.blk]; rfl
  have hg : g < w.heap.size := hin.lt (by have := hfit.1; omega)
  have hown := h.rows.own
  have hmap : (L.map rval).length = L.length := by simp
  have hnb : some bs ≠ fv.ownBlock := fun e => by
    rcases hown.2 with ⟨h1, _⟩ | ⟨gg, cp, cur, h1, _, h2, _⟩
    · rw [h1] at e; cases e
    · rw [h1] at e
      simp only [Value.ownBlock, Option.some.injEq] at e
      rw [← e, h.blk] at h2
      simp at h2
  obtain ⟨fa, fc, hfe⟩ : ∃ a cp, fv = .slice a L.length cp := by
    rcases hown.2 with ⟨h1, h2⟩ | ⟨gg, cp, _, h1, _⟩
    · exact ⟨none, 0, by rw [h1, h2]⟩
    · exact ⟨_, cp, h1⟩
  have f1 : w.frozen? ⟨bs, 1, none⟩ = false := by simp [World.frozen?, h.blk]
  have HS : Hid (StoreAt w base bs ks L (.slice (some ⟨sc, 0, none⟩) ks.length scap) fv) := h
  have HO : Hid (w.ownsRow base 25 1 fv L.length (L.map rval)) := hown
  have hge : ¬ ((1000 : Int) ≤ (L.length : Int)) := by omega
  clear h hown
  generalize hxs : L.map rval = xs at HO hmap
  have HX : Hid (L.map rval = xs) := hxs
  clear hxs
  generalize hn : L.length = n at *
  have HN : Hid (L.length = n) := hn
  clear hn
  subst hfe
  go_enter Tryd.func44, Tryd.ntmps44
  go_wp2_with fail
  refine (check_ok bs sc scap ks r g cap w c0 hkin hin hr hfit).mono ?_
  rintro e w1 ⟨rfl, hb1⟩
  have k1 : w1.cell? ⟨bs, 1, none⟩ = some (.slice fa n fc) := (hb1.cell (p := ⟨bs, 1, none⟩) hbs).trans c1
  have hz1' := hb1.size
  go_wp2_with fail
  go_region_law (first
    | (go_simp; go_at_call 47; refine (apart_any r g cap _ (hin.keep (by exact hb1.block g hg)) hr hs).mono ?_; rintro e w2 ⟨rfl, hblk, hb2⟩; dsimp only
       have k2 : w2.cell? ⟨bs, 1, none⟩ = some (.slice fa n fc) := (hb2.cell (p := ⟨bs, 1, none⟩) (by simp; omega)).trans k1
       have k3 : ∀ o, (w2.alloc o).cell? ⟨bs, 1, none⟩ = some (.slice fa n fc) := fun o => (cell_alloc w2 o bs 1 (by have := hb2.size; simp at this; omega)).trans k2)
    | (refine step_append_lies _ (by rfl) _ _ _ (by rfl) base 25 i0 _ 1 24 Tryd.underlying39 hi0 hz0 hz1 hz2 rfl (by omega) (.slice fa n fc) n xs (by rfl) ((ownsRow_below (ownsRow_below HO.out hb1.drew) hb2).alloc _)
        ⟨w2.heap.size, 0, none⟩ 1 1 [.slice (some ⟨w1.heap.size, 0, none⟩) r.length r.length] (by rfl) (by rfl) (World.news_of_block (cs := #[.slice (some ⟨w1.heap.size, 0, none⟩) r.length r.length]) (t := 25) (fr := (0, 0)) (heap_alloc_new w2 _)) (by simp [Value.oneCell'])
        (by omega) (by unfold maxLen; omega) (by omega) (by have := hb2.size; simp at this; simp; omega) (w2.heap.size + 1) (by simp) ?_; intro gg cp w3 hown3 hgrow hat hlt
       have q1 : w3.cell? ⟨bs, 1, none⟩ = some (.slice fa n fc) := (hgrow.cell_far ⟨bs, 1, none⟩ (by have := hb2.size; simp at this; simp; omega) hnb).trans (k3 _)
       have q2 : w3.frozen? ⟨bs, 1, none⟩ = false := (hgrow.frozen_far ⟨bs, 1, none⟩ (by have := hb2.size; simp at this; simp; omega) hnb).trans ((frozen_alloc w2 _ bs 1 (by have := hb2.size; simp at this; omega)).trans ((hb2.frozen (p := ⟨bs, 1, none⟩) (by simp; omega)).trans ((hb1.frozen (p := ⟨bs, 1, none⟩) hbs).trans f1)))))
  all_goals (clear k1 k2 k3 q1 q2; go_wp2; go_ret)
  all_goals exact ⟨rfl, append_close HS.out HN.out hbase hb1 hblk hb2 (by rw [HX.out]; exact hown3) hgrow hat⟩

end Go.Proofs.YtcconhgbefhdeaaDoor
